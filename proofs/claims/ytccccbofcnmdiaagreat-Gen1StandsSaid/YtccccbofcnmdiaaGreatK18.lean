/- Lemmas that the law stands on. No condition. -/
import Derived.Test.YtccccbofcnmdiaaGreatK15
import Derived.Test.YtccccbofcnmdiaaGreatK17
namespace Go.Proofs.YtccccbofcnmdiaaGreat
set_option linter.unusedSimpArgs false
set_option linter.unusedVariables false
set_option maxRecDepth 100000
set_option maxHeartbeats 51200000
section
open Go.RowKit Go.Sort
section
variable {x y z:En}
theorem bef_iff:bef x y=true ↔ y.2<x.2 ∨ (y.2=x.2/\sL y.1 x.1=true):=by unfold bef;simp
theorem bef_false:bef x y=false ↔ ¬ (y.2<x.2)/\(y.2=x.2->sL y.1 x.1=false):=by unfold bef;simp
theorem bef_irrefl (x:En):bef x x=false:=by rw [bef_false];exact ⟨by omega,fun _=>sL_irrefl _⟩
theorem bef_trans (h1:bef x y=true)(h2:bef y z=true):bef x z=true:=by
 rw [bef_iff] at *
 rcases h1 with h1 | ⟨h1,k1⟩ <;> rcases h2 with h2 | ⟨h2,k2⟩
 ·exact .inl (by omega)
 ·exact .inl (by omega)
 ·exact .inl (by omega)
 ·exact .inr ⟨by omega,sL_trans k2 k1⟩
theorem bef_asymm (h:bef x y=true):bef y x=false:=by
 cases h':bef y x
 ·rfl
 ·have:=bef_trans h h'
  rw [bef_irrefl] at this;cases this
theorem bef_eq (h1:bef x y=false)(h2:bef y x=false):x=y:=by
 rw [bef_false] at h1 h2
 have e:x.2=y.2:=by omega
 rcases sL_total (h1.2 e.symm) with h | h
 ·rw [h2.2 e] at h;cases h
 ·exact Prod.ext h.symm e
theorem bef_ntrans (h1:bef x y=false)(h2:bef y z=false):bef x z=false:=by
 cases h:bef x z
 ·rfl
 ·cases h3:bef y x
  ·have e:=bef_eq h1 h3
   subst e
   rw [h2] at h;cases h
  ·rw [bef_trans h3 h] at h2;cases h2
theorem ltOf_cfE:ltOf cfE x y=bef y x:=by
 unfold ltOf cfE or2
 rw [Bool.eq_iff_iff,decide_eq_true_eq,bef_iff]
 by_cases h:cI x.2 y.2=0
 ·rw [if_pos h,compareBytes_neg,sL_iff]
  rw [cI_zero] at h
  constructor
  ·exact fun k=>.inr ⟨h,k⟩
  ·rintro (k | ⟨_,k⟩)
   ·omega
   ·exact k
 ·rw [if_neg h,cI_neg]
  rw [cI_zero] at h
  constructor
  ·exact fun k=>.inl k
  ·rintro (k | ⟨k,_⟩)
   ·exact k
   ·exact absurd k h
end
theorem swoE:SWO (ltOf cfE):=⟨fun x=>by rw [ltOf_cfE];exact bef_irrefl x,fun x y z h1 h2=>by rw [ltOf_cfE] at *;exact bef_trans h2 h1,fun x y z h1 h2=>by rw [ltOf_cfE] at *;exact bef_ntrans h2 h1⟩
def Asc (E:List En):Prop:=E.Pairwise fun x y=>bef x y=false
theorem insE_perm (x:En)(E:List En):(insE x E).Perm (x :: E):=by
 unfold insE
 have:=List.perm_middle (a:=x) (l₁:=E.takeWhile (bef x)) (l₂:=E.dropWhile (bef x))
 rwa [List.takeWhile_append_dropWhile] at this
theorem insE_asc {x:En}{E:List En}(h:Asc E):Asc (insE x E):=by
 unfold insE Asc
 have h':Asc (E.takeWhile (bef x) ++ E.dropWhile (bef x)):=by rwa [List.takeWhile_append_dropWhile]
 unfold Asc at h'
 rw [List.pairwise_append] at h' ⊢
 obtain ⟨h1,h2,h3⟩:=h'
 have ht:∀ y ∈ E.takeWhile (bef x),bef x y=true:=by
  intro y hy
  have:=List.all_takeWhile (p:=bef x) (l:=E)
  rw [List.all_eq_true] at this
  exact this y hy
 have hd:∀ y ∈ E.dropWhile (bef x),bef x y=false:=by
  cases hq:E.dropWhile (bef x) with
  | nil=>intro y hy;cases hy
  | cons z r=>
   have hz:bef x z=false:=by
    have:=List.head_dropWhile_not (bef x) (l:=E) (by rw [hq];simp)
    simpa [hq] using this
   intro y hy
   rw [hq,List.pairwise_cons] at h2
   rcases List.mem_cons.1 hy with rfl | hy
   ·exact hz
   ·exact bef_ntrans hz (h2.1 y hy)
 refine ⟨h1,List.pairwise_cons.2 ⟨hd,h2⟩,?_⟩
 intro a ha b hb
 rcases List.mem_cons.1 hb with rfl | hb
 ·exact bef_asymm (ht a ha)
 ·exact h3 a ha b hb
theorem srt_fold (t:Kt)(tl:List Lb)(l:List Jb):∀ (L:List Ml)(E:List En),Asc E->Asc (L.foldl (fun E m=>match entry t tl l m with | some x=>insE x E | none=>E) E)/\(L.foldl (fun E m=>match entry t tl l m with | some x=>insE x E | none=>E) E).Perm (L.filterMap (entry t tl l) ++ E)
 | [],E,h=>⟨h,by simp⟩
 | m :: L,E,h=>by
  rw [List.foldl_cons]
  cases he:entry t tl l m with
  | none=>
   rw [List.filterMap_cons_none he]
   exact srt_fold t tl l L E h
  | some x=>
   rw [List.filterMap_cons_some he]
   obtain ⟨h1,h2⟩:=srt_fold t tl l L (insE x E) (insE_asc h)
   refine ⟨h1,h2.trans ?_⟩
   refine ((insE_perm x E).append_left _).trans ?_
   rw [List.cons_append]
   exact List.perm_middle
section
variable {t:Kt}{tl:List Lb}{l:List Jb}{L:List Ml}
theorem srt_asc:Asc (srt t tl l L):=(srt_fold t tl l L [] List.Pairwise.nil).1
theorem srt_perm:(srt t tl l L).Perm (able t tl l L):=by
 have:=(srt_fold t tl l L [] List.Pairwise.nil).2
 rwa [List.append_nil] at this
theorem asc_one:∀ {E F:List En},Asc E->Asc F->E.Perm F->E=F
 | [],F,_,_,h=>(List.Perm.nil_eq h)
 | x :: E,[],_,_,h=>by have:=h.length_eq;simp at this
 | x :: E,y :: F,h1,h2,h=>by
  unfold Asc at h1 h2
  rw [List.pairwise_cons] at h1 h2
  have hx:x ∈ y :: F:=h.subset (by simp)
  have hy:y ∈ x :: E:=h.symm.subset (by simp)
  have e:x=y:=by
   rcases List.mem_cons.1 hx with hx | hx
   ·exact hx
   ·rcases List.mem_cons.1 hy with hy | hy
    ·exact hy.symm
    ·exact bef_eq (h1.1 y hy) (h2.1 x hx)
  subst e
  rw [asc_one h1.2 h2.2 ((List.perm_cons x).1 h)]
theorem sorted_srt {D:Array En}(hp:PermIn 0 (able t tl l L).length (able t tl l L).toArray D)(hs:SortedIn (ltOf cfE) 0 (able t tl l L).length D):D.toList=srt t tl l L:=by
 obtain ⟨h1,_,h3⟩:=hp
 simp only [List.size_toArray] at h1
 have h4:D.toList.Perm (able t tl l L):=by
  have e:D.extract 0 (able t tl l L).length=D:=by rw [<- h1];simp
  rw [e] at h3
  simpa using h3
 refine asc_one ?_ srt_asc (h4.trans srt_perm.symm)
 unfold Asc
 rw [List.pairwise_iff_getElem]
 intro i j hi hj hij
 have:=hs i j (Nat.zero_le _) hij (by rw [<- h1];simpa using hj)
 rw [ltOf_cfE] at this
 rw [getElem!_pos D i (by simpa using hi),getElem!_pos D j (by simpa using hj)] at this
 simpa using this
end
end
section
open Go.RowKit

theorem score_any (m:Mc)(ml:List Lb)(A:Option Addr) (n cap:Nat)(l:List Jb)(t:Kt)(tl:List Lb)(w:World)(hn:Hid (n=l.length))(hl:n<=1000000)(hA:Hid (RdJ w A l))(hM:Hid (McOk w m ml))(hT:Hid (KtOk w t tl))(r:Option Int)(hr:Hid (sco m ml t tl l=r)) :
  Calls Tryz.prog 221 #[.agg m.arr,.slice A n cap,.agg t.arr] w fun e w'=>e = .returned (.tuple #[.int .i64 (r.getD 0),.bool r.isSome])/\Below w.heap.size w w':=by
 obtain ⟨x,hx⟩:∃ x,why m ml t tl l=x:=⟨_,rfl⟩
 have k1:=fun (W:World)(h:Hid (RdJ W A l))(h2:McOk W m ml)(h3:KtOk W t tl)=>why_any m ml A n cap l t tl W hn hl h h2 h3 x hx
 have K1:=Lib.hid k1;clear k1
 by_cases h0:x=0
 case neg=>
  have hq:r=none:=by rw [<- hr.out];exact sco_no (by rw [hx];exact h0)
  subst hq
  have hd:(x != 0)=true:=by simpa using h0
  clear hx hr
  go_enter Tryz.func221,Tryz.ntmps221
  have HM0:=Lib.hid (show Bk ((w.alloc (.cells m.arr 60)).alloc (.cells t.arr 47)) w.heap.size 60 m.arr from (Bk.fresh w _ _).later ((Below.refl _ _).alloc (Nat.le_refl _) _))
  have HT0:=Lib.hid (show Bk ((w.alloc (.cells m.arr 60)).alloc (.cells t.arr 47)) (w.heap.size+1) 47 t.arr from Bk.freshAt _ _ _ (by simp))
  have hB0:Below w.heap.size w ((w.alloc (.cells m.arr 60)).alloc (.cells t.arr 47)):=((Below.refl _ _).alloc (Nat.le_refl _) _).alloc (by simp) _
  go_wp2_with (first | (with_reducible refine load_bk rfl 60 _ rfl w.heap.size 0 rfl 60 m.arr m.arr _ HM0.out (Part.whole _) Tryz.underlying60 rfl (by kernel_rfl) ?_) | (with_reducible refine load_bk rfl 47 _ rfl (w.heap.size+1) 0 rfl 47 t.arr t.arr _ HT0.out (Part.whole _) Tryz.underlying47 rfl (by kernel_rfl) ?_))
  refine (K1.out _ (hA.out.later hB0) (hM.out.later hB0) (hT.out.later hB0)).mono ?_;rintro v w1 ⟨rfl,hb1⟩
  go_wp2_with fail
  exact bodyPost_ret (v:=.tuple #[.int .i64 0,.bool false]) (by simp [results,Tryz.results221,go_sem]) rfl ⟨rfl,hB0.trans (hb1.mono hB0.size)⟩
 case pos=>
  subst h0
  obtain ⟨p,q,s,hf,h1,hsb,hse⟩:=sco_yes hx
  have hq:r=some (shN (p - t.a) (q - t.b) (s - t.c) m.a m.b m.c):=by rw [<- hr.out];exact h1
  subst hq
  have k2:=fun (W:World)(h:Hid (RdJ W A l))=>freeM_any m A n cap l W hn hl h p q s 0 hf
  have k3:=fun (W:World)=>sub_any p q s t.a t.b t.c W
  rw [hsb,hse,kp_t,kp_t,kp_t] at k3
  have k4:=fun (W:World)=>share_any (p - t.a) (q - t.b) (s - t.c) m.a m.b m.c W
  have K2:=Lib.hid k2;have K3:=Lib.hid k3;have K4:=Lib.hid k4
  obtain ⟨sc,hsc⟩:∃ sc,shN (p - t.a) (q - t.b) (s - t.c) m.a m.b m.c=sc:=⟨_,rfl⟩
  have K4':=Lib.hid (show ∀ W,Calls Tryz.prog 225 #[.agg #[.int .i64 (p - t.a),.int .i64 (q - t.b),.int .i64 (s - t.c)],.agg #[.int .i64 m.a,.int .i64 m.b,.int .i64 m.c]] W fun r w'=>r = .returned (.int .i64 sc)/\Below W.heap.size W w' from fun W=>hsc ▸ K4.out W)
  rw [hsc]
  clear k2 k3 k4 hx hf h1 hsb hse hr K4 hsc
  go_enter Tryz.func221,Tryz.ntmps221
  have HM0:=Lib.hid (show Bk ((w.alloc (.cells m.arr 60)).alloc (.cells t.arr 47)) w.heap.size 60 m.arr from (Bk.fresh w _ _).later ((Below.refl _ _).alloc (Nat.le_refl _) _))
  have HT0:=Lib.hid (show Bk ((w.alloc (.cells m.arr 60)).alloc (.cells t.arr 47)) (w.heap.size+1) 47 t.arr from Bk.freshAt _ _ _ (by simp))
  have hB0:Below w.heap.size w ((w.alloc (.cells m.arr 60)).alloc (.cells t.arr 47)):=((Below.refl _ _).alloc (Nat.le_refl _) _).alloc (by simp) _
  go_wp2_with (first | (with_reducible refine load_bk rfl 60 _ rfl w.heap.size 0 rfl 60 m.arr m.arr _ HM0.out (Part.whole _) Tryz.underlying60 rfl (by kernel_rfl) ?_) | (with_reducible refine load_bk rfl 47 _ rfl (w.heap.size+1) 0 rfl 47 t.arr t.arr _ HT0.out (Part.whole _) Tryz.underlying47 rfl (by kernel_rfl) ?_))
  refine (K1.out _ (hA.out.later hB0) (hM.out.later hB0) (hT.out.later hB0)).mono ?_;rintro v w1 ⟨rfl,hb1⟩
  have hB1:Below w.heap.size w w1:=hB0.trans (hb1.mono hB0.size)
  have HM1:=Lib.hid (HM0.out.later hb1);have HT1:=Lib.hid (HT0.out.later hb1);clear HM0 HT0 hB0 hb1
  go_wp2_with (with_reducible refine load_bk rfl 60 _ rfl w.heap.size 0 rfl 60 m.arr m.arr _ HM1.out (Part.whole _) Tryz.underlying60 rfl (by kernel_rfl) ?_)
  refine (K2.out _ (hA.out.later hB1)).mono ?_;rintro v w2 ⟨rfl,hb2⟩
  have hB2:Below w.heap.size w w2:=hB1.trans (hb2.mono hB1.size)
  have HM2:=Lib.hid (HM1.out.later hb2);have HT2:=Lib.hid (HT1.out.later hb2);clear HM1 HT1 hB1 hb2
  go_wp2_with (first | ((with_reducible refine store_bk rfl 40 (.tmp 8) (.tmp 21) rfl w2.heap.size 0 #[.int .i64 p,.int .i64 q,.int .i64 s] rfl rfl 40 _ #[.int .i64 p,.int .i64 q,.int .i64 s] (Bk.fresh _ _ _) (by kernel_rfl) (by simp) (by kernel_rfl) rfl ?_);intro w3 hX hg hs;have HX:=Lib.hid hX;clear hX hs;have bl:Below w2.heap.size w2 w3:=grown_below ((Below.refl _ _).alloc (Nat.le_refl _) _) hg (Nat.le_refl _);clear hg;have HM3:=Lib.hid (HM2.out.later bl);have HT3:=Lib.hid (HT2.out.later bl);have hB3:Below w.heap.size w w3:=hB2.trans (bl.mono hB2.size)) | (with_reducible refine load_bk rfl 40 _ rfl w2.heap.size 0 rfl 40 #[.int .i64 p,.int .i64 q,.int .i64 s] #[.int .i64 p,.int .i64 q,.int .i64 s] _ HX.out (Part.whole _) Tryz.underlying40 rfl (by kernel_rfl) ?_) | (with_reducible refine load_bk rfl 40 _ rfl (w.heap.size+1) 3 rfl 47 t.arr #[.int .i64 t.a,.int .i64 t.b,.int .i64 t.c] _ HT3.out (Part.of rfl) Tryz.underlying40 rfl (by kernel_rfl) ?_))
  refine (K3.out _).mono ?_;rintro v w4 ⟨rfl,hb4⟩
  have hB4:Below w.heap.size w w4:=hB3.trans (hb4.mono hB3.size)
  have HM4:=Lib.hid (HM3.out.later hb4);clear HM3 HT3 HM2 HT2 HX bl hB2 hB3 hb4
  go_wp2_with (first | ((with_reducible refine store_bk rfl 40 (.tmp 10) (.tmp 28) rfl w4.heap.size 0 #[.int .i64 (p - t.a),.int .i64 (q - t.b),.int .i64 (s - t.c)] rfl rfl 40 _ #[.int .i64 (p - t.a),.int .i64 (q - t.b),.int .i64 (s - t.c)] (Bk.fresh _ _ _) (by kernel_rfl) (by simp) (by kernel_rfl) rfl ?_);intro w5 hX hg hs;have HX:=Lib.hid hX;clear hX hs;have bl:Below w4.heap.size w4 w5:=grown_below ((Below.refl _ _).alloc (Nat.le_refl _) _) hg (Nat.le_refl _);clear hg;have HM5:=Lib.hid (HM4.out.later bl);have hB5:Below w.heap.size w w5:=hB4.trans (bl.mono hB4.size)) | (with_reducible refine load_bk rfl 40 _ rfl w4.heap.size 0 rfl 40 #[.int .i64 (p - t.a),.int .i64 (q - t.b),.int .i64 (s - t.c)] #[.int .i64 (p - t.a),.int .i64 (q - t.b),.int .i64 (s - t.c)] _ HX.out (Part.whole _) Tryz.underlying40 rfl (by kernel_rfl) ?_) | (with_reducible refine load_bk rfl 40 _ rfl w.heap.size 1 rfl 60 m.arr #[.int .i64 m.a,.int .i64 m.b,.int .i64 m.c] _ HM5.out (Part.of rfl) Tryz.underlying40 rfl (by kernel_rfl) ?_))
  refine (K4'.out _).mono ?_;rintro v w6 ⟨rfl,hb6⟩
  go_wp2_with fail
  exact bodyPost_ret (v:=.tuple #[.int .i64 sc,.bool true]) (by simp [results,Tryz.results221,go_sem]) rfl ⟨rfl,hB5.trans (hb6.mono hB5.size)⟩
end
section
open Go.RowKit

theorem candidates_any (A0:Option Addr) (N c0:Nat)(L:List Ml)(A:Option Addr) (n cap:Nat)(l:List Jb)(t:Kt)(tl:List Lb)(w:World)(hN:Hid (N=L.length))(hNl:N<=1000000)(hL:Hid (RdM w A0 (mcs L)))(hLo:Hid (MsOk w L))(hn:Hid (n=l.length))(hl:n<=1000000)(hA:Hid (RdJ w A l))(hT:Hid (KtOk w t tl)) :
  Calls Tryz.prog 213 #[.slice A0 N c0,.slice A n cap,.agg t.arr] w fun e w'=>RetE w.heap.size w' e (able t tl l L)/\Below w.heap.size w w':=by
 go_enter Tryz.func213,Tryz.ntmps213
 have HT0:=Lib.hid (show Bk (w.alloc (.cells t.arr 47)) w.heap.size 47 t.arr from Bk.fresh _ _ _)
 have hB0:Below w.heap.size w (w.alloc (.cells t.arr 47)):=(Below.refl _ _).alloc (Nat.le_refl _) _
 go_wp2_with fail
 go_loopw [7,14] (fun v i wr=>∃ k:Nat,k<=N/\i = .int .i64 k/\Hid (OwnK wr (w.heap.size+1) 246 2 v (cellsE (able t tl l (L.take k))))/\Hid (Bk wr w.heap.size 47 t.arr)/\Below w.heap.size w wr) (fun _ i wr=>N - (intOf i).toNat)
 case atStart=>exact ⟨0,Nat.zero_le _,rfl,(show OwnK _ _ _ _ _ (cellsE (able t tl l (L.take 0))) from OwnK.nil _ _ _ _),HT0,hB0⟩
 case round=>
  clear HT0 hB0
  obtain ⟨k,hk,rfl,HO,HTb,hb⟩:=hrel
  have lt0:w.heap.size<wr.heap.size:=HTb.out.here
  by_cases hlt:k<N
  ·have hlk:k<L.length:=by have:=hN.out;omega
   obtain ⟨g,o,rfl,hg,hm⟩:=(hL.out.later hb).at (i:=k) (by simpa [mcs] using hlk)
   rw [mcs_at hlk] at hm
   obtain ⟨x,hx⟩:∃ x,x=L[k]:=⟨_,rfl⟩
   rw [<- hx] at hm
   have HMt:=Lib.hid hm;clear hm
   have hxo:McOk w x.1 x.2:=by rw [hx];exact hLo.out.at hlk
   have hlen:(cellsE (able t tl l (L.take k))).length<=k:=by rw [cellsE_length];exact Nat.le_trans (able_len _) (by rw [List.length_take];omega)
   obtain ⟨r,hr⟩:∃ r,sco x.1 x.2 t tl l=r:=⟨_,rfl⟩
   have ks:=fun (W:World)(h1:RdJ W A l)(h2:McOk W x.1 x.2)(h3:KtOk W t tl)=>score_any x.1 x.2 A n cap l t tl W hn hl h1 h2 h3 r hr
   have HX0:=Lib.hid hx;have HR:=Lib.hid hr;have KS:=Lib.hid ks;have HXo:=Lib.hid hxo;clear ks hx hr hxo
   go_wp2_with (first | (with_reducible refine load_rg rfl 60 _ rfl g (o+k * 7) rfl x.1.arr _ HMt.out.rg Tryz.underlying60 rfl (by kernel_rfl) ?_) | ((with_reducible refine store_bk rfl 60 (.tmp 9) (.tmp 17) rfl wr.heap.size 0 x.1.arr rfl rfl 60 _ x.1.arr (Bk.fresh _ _ _) (by kernel_rfl) (by simp) (by kernel_rfl) rfl ?_);intro w1 hB1 hg1 hs1;have HX:=Lib.hid hB1;clear hB1;have HT1:=Lib.hid ((HTb.out.later ((Below.refl _ _).alloc (Nat.le_refl _) _)).stays hg1 (by simp;omega));have hb1:Below w.heap.size w w1:=grown_below (hb.alloc hb.size _) hg1 hb.size) | (with_reducible refine load_bk rfl 47 _ rfl w.heap.size 0 rfl 47 t.arr t.arr _ HT1.out (Part.whole _) Tryz.underlying47 rfl (by kernel_rfl) ?_) | (with_reducible refine load_bk rfl 60 _ rfl wr.heap.size 0 rfl 60 x.1.arr x.1.arr _ HX.out (Part.whole _) Tryz.underlying60 rfl (by kernel_rfl) ?_))
   refine (KS.out _ (hA.out.later hb1) (HXo.out.later hb1) (hT.out.later hb1)).mono ?_;rintro v w2 ⟨rfl,hb2⟩
   have HX2:=Lib.hid (HX.out.later hb2)
   have HT2:=Lib.hid (HT1.out.later hb2)
   have hB2:Below w.heap.size w w2:=hb1.trans (hb2.mono hb1.size)
   have HO2:=Lib.hid ((HO.out.below (grown_below ((Below.refl _ _).alloc (Nat.le_refl _) _) hg1 (Nat.le_refl _))).below hb2)
   have lt2:w.heap.size<w2.heap.size:=HT2.out.here
   have lx2:wr.heap.size<w2.heap.size:=HX2.out.here
   clear HT1 HX HO hb1 hb2 hg1 hs1
   cases r with
   | none=>
    have HN2:Hid (OwnK w2 (w.heap.size+1) 246 2 u7 (cellsE (able t tl l (L.take (k+1))))):=by
     show OwnK _ _ _ _ _ _
     have h:=HO2.out
     rwa [able_no hlk (by rw [<- HX0.out];exact HR.out)]
    go_wp2_with fail
    go_round
    case rel=>exact ⟨k+1,by omega,by go_num,HN2,HT2,hB2⟩
    case measure=>simp [intOf];omega
   | some s=>
    have HE:Hid (able t tl l (L.take (k+1))=able t tl l (L.take k) ++ [(x.1.nm,s)]):=by
     show _=_
     rw [able_yes hlk (by rw [<- HX0.out];exact HR.out),<- HX0.out]
    have cn:w2.cell? ⟨wr.heap.size,0,none⟩=some (.string x.1.nm):=HX2.out.cellAt 0
    go_wp2_with (first | ((with_reducible refine append_k _ rfl (.tmp 26) (.tmp 32) 242 rfl (w.heap.size+1) 246 _ 2 24 Tryz.underlying242 infoE rfl (by omega) u7 (cellsE (able t tl l (L.take k))) rfl (HO2.out.alloc _) ⟨w2.heap.size,0,none⟩ 1 1 (cellsE [(x.1.nm,s)]) rfl (fresh_k w2 2 _ _ rfl) (by simp [cellsE,encE]) (by simp [cellsE,encE,Value.oneCell']) (by simp [cellsE]) (by simp [cellsE,maxLen] at hlen ⊢;omega) (by simp [cellsE] at hlen ⊢;omega) (by simp;omega) ?_);intro u7' w3 hO3 hg3))
    go_round
    case rel=>exact ⟨k+1,by omega,by go_num,(by rw [HE.out,cellsE_append];exact hO3),(HT2.out.later ((Below.refl _ _).alloc (Nat.le_refl _) _)).stays hg3 (fun e=>by have:=HO2.out.block _ e.symm;omega),(hB2.alloc hB2.size _).grown hg3 (by simp;omega) (fun g e=>by have:=HO2.out.block _ e;omega)⟩
    case measure=>simp [intOf];omega
  ·have hk':k=N:=by omega
   subst hk'
   have hlk:L.take k=L:=by rw [hN.out];exact List.take_length
   have h7:=HO.out
   rw [hlk] at h7
   have H7:=Lib.hid (h7.base (b':=w.heap.size) (by omega));clear h7 hlk
   go_wp2_with fail
   go_ret
   exact ⟨⟨_,rfl,H7.out⟩,hb⟩
end
section
open Go.RowKit
def bestP (E:List En):ByteArray × Bool:=match E with | []=>(⟨#[]⟩,false) | x :: _=>(x.1,true)
end
section
open Go.Shelf Go.RowKit Go.Lib Go.Sort Go.Proofs
theorem enterC:∀ args w,(callFunc 215 args).run Tryz.prog w = .ok (.enter 215 args) w:=enters_of Tryz.func215 (by kernel_rfl) rfl
theorem cmpLaysE (blk off size:Nat)(w:World):CmpLays Tryz.prog 215 #[] encE 2 cfE blk off size w:=
 fun _ _ _ _ x y=>cmpE_any _ _ _ _ _
theorem sortC_some {base g cap:Nat}{t:Kt}{tl:List Lb}{l:List Jb}{L:List Ml}{w:World}(h:OwnK w base 246 2 (.slice (some ⟨g,0,none⟩) (able t tl l L).length cap) (cellsE (able t tl l L)))(hb:base<=w.heap.size)(hg:base<=g)(hl:(able t tl l L).length<=1000000) :
  Calls Tryz.prog 214 #[.slice (some ⟨g,0,none⟩) (able t tl l L).length cap,.func (.func 215) #[] #[]] w fun e w'=>e = .returned (.tuple #[])/\RdE w' (some ⟨g,0,none⟩) (srt t tl l L)/\Below base w w':=by
 have R:=own_row encE_len (by omega) encE_one h
 have hc:=AnyQ.slices_SortFunc layC 2 Tryz.isAgg246 Tryz.sizeOf246 encE encE_len encE_one cfE swoE 215 #[] g 0 cap (able t tl l L).toArray w enterC (cmpLaysE _ _ _ _) R.hH R.hblk (by rw [List.size_toArray];omega)
 rw [List.size_toArray] at hc
 refine Calls.mono hc ?_
 rintro e w' ⟨he,D,n,os,hp,hs,hw⟩
 have hS:SWK encE 2 w g 0 D w':=⟨n,os,hw⟩
 have hD:D.size=(able t tl l L).toArray.size:=hp.1
 refine ⟨he,?_,sw_below hS hg hb⟩
 have:=holds_rdk encE_len (hS.holds R.hblk R.hH hD)
 rw [sorted_srt hp hs] at this
 exact this

theorem insC_none (A:Option Addr) (c:Nat)(w:World):Calls Tryz.prog 226 #[.slice A 0 c,.int .i64 0,.int .i64 0,.func (.func 215) #[] #[]] w fun e w'=>e = .returned (.tuple #[])/\w=w':=by
 go_enter Tryz.func226,Tryz.ntmps226
 go_wp2
 refine wp_loop_rounds 1 ?_
 rw [rounds_succ]
 go_wp2
 go_end0
 exact ⟨rfl,rfl⟩

theorem pdqC_none (A:Option Addr) (c:Nat) (n:Int)(w:World):Calls Tryz.prog 222 #[.slice A 0 c,.int .i64 0,.int .i64 0,.int .i64 n,.func (.func 215) #[] #[]] w fun e w'=>e = .returned (.tuple #[])/\w=w':=by
 go_enter Tryz.func222,Tryz.ntmps222
 go_wp2
 refine wp_loop_rounds 1 ?_
 rw [rounds_succ]
 go_wp2_with (go_at_call 226;refine (insC_none _ _ _).mono ?_;rintro e w' ⟨rfl,rfl⟩)
 (try simp only [Exit.inBlock,Exit.then]);refine bodyPost_ret (results_none rfl _ _ _) rfl ?_
 exact ⟨rfl,rfl⟩

theorem sortC_none (A:Option Addr) (c:Nat)(w:World):Calls Tryz.prog 214 #[.slice A 0 c,.func (.func 215) #[] #[]] w fun e w'=>e = .returned (.tuple #[])/\w=w':=by
 have hl:Calls Tryz.prog 114 #[.int .u64 ((0:Nat):Int)] w fun e w'=>e = .returned (.int .i64 (Lib.bitLen 0:Nat))/\w' = w:=by
  have h:=Any.bits_Len (SlLaysF0.n15.bits (P:=Tryz.prog) (ρ:=renC) { layC with }) ((0:Nat):Int) w (by omega) (by omega)
  rwa [Int.toNat_natCast] at h
 generalize (Lib.bitLen 0:Nat)=q at hl
 go_enter Tryz.func214,Tryz.ntmps214
 go_wp2_with (first | (go_at_call 114;refine hl.mono ?_;rintro e w' ⟨rfl,rfl⟩) | (go_at_call 222;refine (pdqC_none _ _ _ _).mono ?_;rintro e w' ⟨rfl,rfl⟩))
 go_end0
 exact ⟨rfl,rfl⟩


theorem sorted_any (A0:Option Addr) (N c0:Nat)(L:List Ml)(A:Option Addr) (n cap:Nat)(l:List Jb)(t:Kt)(tl:List Lb)(w:World)(hN:Hid (N=L.length))(hNl:N<=1000000)(hL:Hid (RdM w A0 (mcs L)))(hLo:Hid (MsOk w L))(hn:Hid (n=l.length))(hl:n<=1000000)(hA:Hid (RdJ w A l))(hT:Hid (KtOk w t tl)) :
  Calls Tryz.prog 204 #[.slice A0 N c0,.slice A n cap,.agg t.arr] w fun e w'=>RetS w.heap.size w' e (nms (srt t tl l L))/\Below w.heap.size w w':=by
 have hlen:(able t tl l L).length<=1000000:=by have:=able_len (t:=t) (tl:=tl) (l:=l) L;have:=hN.out;omega
 have k1:=fun (W:World)(h1:Hid (RdM W A0 (mcs L)))(h2:Hid (MsOk W L))(h3:Hid (RdJ W A l))(h4:Hid (KtOk W t tl))=>candidates_any A0 N c0 L A n cap l t tl W hN hNl h1 h2 hn hl h3 h4
 have hE0:=srt_perm (t:=t) (tl:=tl) (l:=l) (L:=L)
 have k2:=fun (base g cap:Nat)(W:World)=>sortC_some (base:=base) (g:=g) (cap:=cap) (t:=t) (tl:=tl) (l:=l) (L:=L) (w:=W)
 have hEl:=hE0.length_eq
 obtain ⟨F,hF⟩:∃ F,able t tl l L=F:=⟨_,rfl⟩
 obtain ⟨E,hE⟩:∃ E,srt t tl l L=E:=⟨_,rfl⟩
 rw [hF] at k1 k2 hlen hEl
 rw [hE] at k2 hEl
 rw [hE]
 have K1:=Lib.hid k1;have K2:=Lib.hid k2;have HEl:=Lib.hid hEl;have HLen:=Lib.hid hlen;clear k1 k2 hE hF hE0 hEl hlen
 go_enter Tryz.func204,Tryz.ntmps204
 have HT0:=Lib.hid (show Bk (w.alloc (.cells t.arr 47)) w.heap.size 47 t.arr from Bk.fresh _ _ _)
 have hB0:Below w.heap.size w (w.alloc (.cells t.arr 47)):=(Below.refl _ _).alloc (Nat.le_refl _) _
 go_wp2_with (with_reducible refine load_bk rfl 47 _ rfl w.heap.size 0 rfl 47 t.arr t.arr _ HT0.out (Part.whole _) Tryz.underlying47 rfl (by kernel_rfl) ?_)
 refine (K1.out _ (hL.out.later hB0) (hLo.out.later hB0) (hA.out.later hB0) (hT.out.later hB0)).mono ?_;rintro v w1 ⟨⟨u,rfl,hO⟩,hb1⟩
 have hB1:Below w.heap.size w w1:=hB0.trans (hb1.mono hB0.size)
 obtain ⟨cc,B,q,hu,hqE,hql,hqc,hc2,hsort⟩:∃ (cc:Nat)(B:Option Addr) (q:Nat),u = .slice B q cc/\q=E.length/\q<=1000000/\q<=cc/\cc<=9223372036854775807/\Hid (Calls Tryz.prog 214 #[.slice B q cc,.func (.func 215) #[] #[]] w1 fun e w'=>e = .returned (.tuple #[])/\RdE w' B E/\Below w.heap.size w1 w'):=by
  rcases hO.2.2 with ⟨hv,h0⟩ | ⟨g,cp,cur,hv,hb,hg,h1,h2,_,_⟩
  ·rw [cellsE_length] at h0
   refine ⟨0,none,0,hv,by have:=HEl.out;omega,by omega,by omega,by omega,?_⟩
   refine (sortC_none none 0 w1).mono ?_
   rintro e w' ⟨he,rfl⟩
   have:E=[]:=List.length_eq_zero_iff.1 (by have:=HEl.out;omega)
   subst this
   exact ⟨he,RdK.nil _ _ _,Below.refl _ _⟩
  ·rw [cellsE_length] at hv h1
   have:=HEl.out
   refine ⟨cp,some ⟨g,0,none⟩,F.length,hv,by omega,HLen.out,h1,by unfold maxLen at h2;omega,?_⟩
   have hO':=hO.base (b':=w.heap.size) (by simp)
   rw [hv] at hO'
   exact K2.out _ _ _ _ hO' hB1.size (by have:=hB0.size;omega) HLen.out
 subst hu
 have HQ:=Lib.hid hqE
 have HX0:=Lib.hid HT0
 clear hO hqE hb1 HT0 hB0
 go_wp2_with (go_at_call 214;refine hsort.out.mono ?_;rintro e w2 ⟨rfl,hr,hb2⟩)
 have HR:=Lib.hid hr
 have hB2:Below w.heap.size w w2:=hB1.trans hb2
 clear hr hb2 hsort hB1 K1 K2
 go_loopw [8,19] (fun v i wr=>∃ k:Nat,k<=q/\i = .int .i64 k/\Hid (OwnK wr w2.heap.size 9 1 v (cellsS (nms (E.take k))))/\Below w2.heap.size w2 wr) (fun _ i wr=>q - (intOf i).toNat)
 case atStart=>exact ⟨0,Nat.zero_le _,rfl,(show OwnK _ _ _ _ _ (cellsS (nms (E.take 0))) from OwnK.nil _ _ _ _),Below.refl _ _⟩
 case round=>
  obtain ⟨k,hk,rfl,HO,hb⟩:=hrel
  have hw2:w.heap.size<=w2.heap.size:=hB2.size
  by_cases hlt:k<q
  ·have hlk:k<E.length:=by have:=HQ.out;omega
   obtain ⟨g,o,rfl,hg,hrg⟩:=(HR.out.later hb).at hlk
   obtain ⟨x,hx⟩:∃ x,x=E[k]:=⟨_,rfl⟩
   rw [<- hx] at hrg
   have HRG:=Lib.hid hrg;clear hrg
   have hlen:(cellsS (nms (E.take k))).length<=k:=by rw [cellsS_length];simp [nms];omega
   have HE:Hid (nms (E.take (k+1))=nms (E.take k) ++ [x.1]):=by
    show _=_
    rw [List.take_succ_eq_append_getElem hlk,<- hx];simp [nms]
   have HX0:=Lib.hid hx;clear hx
   go_wp2_with (first | (with_reducible refine load_rg rfl 246 _ rfl g (o+k * 2) rfl #[.string x.1,.int .i64 x.2] _ HRG.out Tryz.underlying246 rfl (by kernel_rfl) ?_) | ((with_reducible refine store_bk rfl 246 (.tmp 10) (.tmp 22) rfl wr.heap.size 0 #[.string x.1,.int .i64 x.2] rfl rfl 246 _ #[.string x.1,.int .i64 x.2] (Bk.fresh _ _ _) (by kernel_rfl) (by simp) (by kernel_rfl) rfl ?_);intro w3 hB1 hg1 hs1;clear hs1;have HX:=Lib.hid hB1;have cn:w3.cell? ⟨wr.heap.size,0,none⟩=some (.string x.1):=hB1.cellAt 0;clear hB1;have hb3:Below w2.heap.size w2 w3:=grown_below (hb.alloc hb.size _) hg1 hb.size;have lx3:wr.heap.size<w3.heap.size:=HX.out.here;have HO3:=Lib.hid (HO.out.below (grown_below ((Below.refl _ _).alloc (Nat.le_refl _) _) hg1 (Nat.le_refl _)))) | ((with_reducible refine append_k _ rfl (.tmp 23) (.tmp 26) 67 rfl w2.heap.size 9 _ 1 16 Tryz.underlying67 infoS rfl (by omega) u8 (cellsS (nms (E.take k))) rfl (HO3.out.alloc _) ⟨w3.heap.size,0,none⟩ 1 1 (cellsS [x.1]) rfl (fresh_k w3 1 _ _ rfl) (by simp [cellsS]) (by simp [cellsS,Value.oneCell']) (by simp [cellsS]) (by simp [cellsS,maxLen] at hlen ⊢;omega) (by simp [cellsS] at hlen ⊢;omega) (by have:=hb3.size;simp;omega) ?_);intro u8' w4 hO4 hg4))
   go_round
   case rel=>exact ⟨k+1,by omega,by go_num,(by rw [HE.out,cellsS_append];exact hO4),(hb3.alloc hb3.size _).grown hg4 (by have:=hb3.size;simp;omega) (fun g e=>by have:=HO3.out.block _ e;omega)⟩
   case measure=>simp [intOf];omega
  ·have hk':k=q:=by omega
   subst hk'
   have hlk:E.take k=E:=by rw [HQ.out];exact List.take_length
   have h7:=HO.out
   rw [hlk] at h7
   have H7:=Lib.hid (h7.base (b':=w.heap.size) hw2);clear h7 hlk
   go_wp2_with fail
   go_ret
   exact ⟨⟨_,rfl,H7.out⟩,hB2.trans (hb.mono hB2.size)⟩
end
section
open Go.RowKit

theorem best_any (A0:Option Addr) (N c0:Nat)(L:List Ml)(A:Option Addr) (n cap:Nat)(l:List Jb)(t:Kt)(tl:List Lb)(w:World)(hN:Hid (N=L.length))(hNl:N<=1000000)(hL:Hid (RdM w A0 (mcs L)))(hLo:Hid (MsOk w L))(hn:Hid (n=l.length))(hl:n<=1000000)(hA:Hid (RdJ w A l))(hT:Hid (KtOk w t tl)) :
  Calls Tryz.prog 189 #[.slice A0 N c0,.slice A n cap,.agg t.arr] w fun e w'=>e=retV (bestP (srt t tl l L))/\Below w.heap.size w w':=by
 have k1:=fun (W:World)(h1:Hid (RdM W A0 (mcs L)))(h2:Hid (MsOk W L))(h3:Hid (RdJ W A l))(h4:Hid (KtOk W t tl))=>sorted_any A0 N c0 L A n cap l t tl W hN hNl h1 h2 hn hl h3 h4
 obtain ⟨E,hE⟩:∃ E,srt t tl l L=E:=⟨_,rfl⟩
 rw [hE] at k1
 rw [hE]
 have K1:=Lib.hid k1;clear k1 hE
 go_enter Tryz.func189,Tryz.ntmps189
 have HT0:=Lib.hid (show Bk (w.alloc (.cells t.arr 47)) w.heap.size 47 t.arr from Bk.fresh _ _ _)
 have hB0:Below w.heap.size w (w.alloc (.cells t.arr 47)):=(Below.refl _ _).alloc (Nat.le_refl _) _
 go_wp2_with (with_reducible refine load_bk rfl 47 _ rfl w.heap.size 0 rfl 47 t.arr t.arr _ HT0.out (Part.whole _) Tryz.underlying47 rfl (by kernel_rfl) ?_)
 refine (K1.out _ (hL.out.later hB0) (hLo.out.later hB0) (hA.out.later hB0) (hT.out.later hB0)).mono ?_;rintro v w1 ⟨⟨u,rfl,hO⟩,hb1⟩
 have hB1:Below w.heap.size w w1:=hB0.trans (hb1.mono hB0.size)
 obtain ⟨B,c,hv,hr,hc,hc'⟩:=hO.rds
 subst hv
 clear hO
 cases E with
 | nil=>
  go_wp2_with fail
  go_ret2
  exact ⟨rfl,hB1⟩
 | cons x E=>
  obtain ⟨g,o,rfl,hg,c0⟩:=hr.at (i:=0) (by simp [nms])
  rw [show (nms (x :: E))[0]'(by simp [nms])=x.1 by simp [nms],Nat.add_zero] at c0
  obtain ⟨q,hq⟩:∃ q,q=(nms (x :: E)).length:=⟨_,rfl⟩
  have hq0:0<q:=by rw [hq];simp [nms]
  rw [<- hq] at hc
  rw [<- hq]
  clear hr hq
  have hq1:((q:Int) == 0)=false:=by simp;omega
  go_wp2_with fail
  go_ret2
  exact ⟨rfl,hB1⟩
end
section
open Go.RowKit
def wkC (m:Mc)(t:Kt)(l:List Jb) (i:Nat):Bool:=sE (jat l i).nd m.nm && decide ((jat l i).pr<t.pr)
def weak (m:Mc)(t:Kt)(l:List Jb) (k:Nat):List Nat:=wk (wkC m t l) (fun i y=>goB (jat l i) (jat l y)) k
end
section
open Go.RowKit
def outJ (g:List Nat)(l:List Jb) (k:Nat):List Jb:=((List.range k).filter fun i=>!(g.contains i)).map (jat l)
def RetJ (b:Nat)(w:World)(e:Ending)(l:List Jb):Prop:=∃ v,e = .returned v/\OwnK w b 66 13 v (cellsJ l)
end
section
open Go.RowKit
def okK (m:Mc)(t:Kt)(l:List Jb)(W:List Nat) (k:Nat):Bool:=
 decide ((freM m (outJ (W.take k) l l.length)).2.2.2=0) && fB t.a t.b t.c (freM m (outJ (W.take k) l l.length)).1 (freM m (outJ (W.take k) l l.length)).2.1 (freM m (outJ (W.take k) l l.length)).2.2.1
def fewest (p:Nat->Bool):Nat->Nat->Option Nat
 | 0,_=>none
 | f+1,k=>if p k then some k else fewest p f (k+1)
def places (m:Mc)(ml:List Lb)(t:Kt)(tl:List Lb)(l:List Jb):Option (List Nat):=
 if why m ml t tl l=0 then some [] else if why m ml t tl l=4 then (fewest (okK m t l (weak m t l l.length)) (weak m t l l.length).length 1).map fun k=>(weak m t l l.length).take k else none
end
section
open Go.RowKit
def namesAt (l:List Jb)(G:List Nat):List ByteArray:=G.map fun i=>(jat l i).nm
theorem namesAt_len (l:List Jb)(G:List Nat):(namesAt l G).length=G.length:=by simp [namesAt]
theorem fewest_le {p:Nat->Bool}:∀ {f k r:Nat},fewest p f k=some r->k<=r/\r<k+f/\p r=true
 | 0,k,r,h=>by simp [fewest] at h
 | f+1,k,r,h=>by
  rw [fewest] at h
  split at h
  ·rename_i hp;injection h with h;subst h;exact ⟨Nat.le_refl _,by omega,hp⟩
  ·obtain ⟨h1,h2,h3⟩:=fewest_le h;exact ⟨by omega,by omega,h3⟩
theorem places_lt {m:Mc}{ml:List Lb}{t:Kt}{tl:List Lb}{l:List Jb}{G:List Nat}(h:places m ml t tl l=some G):∀ i ∈ G,i<l.length:=by
 unfold places at h
 intro i hi
 split at h
 ·injection h with h;subst h;simp at hi
 ·split at h
  ·rw [Option.map_eq_some_iff] at h
   obtain ⟨k,_,rfl⟩:=h
   exact wk_lt _ i (List.mem_of_mem_take hi)
  ·cases h
theorem places_len {m:Mc}{ml:List Lb}{t:Kt}{tl:List Lb}{l:List Jb}{G:List Nat}(h:places m ml t tl l=some G):G.length<=l.length:=by
 unfold places at h
 split at h
 ·injection h with h;subst h;simp
 ·split at h
  ·rw [Option.map_eq_some_iff] at h
   obtain ⟨k,_,rfl⟩:=h
   rw [List.length_take]
   have:(weak m t l l.length).length<=l.length:=wk_len _
   omega
  ·cases h
end
section
open Go.RowKit
abbrev Ch:=Nat × Nat × Int
def chB (o:Option Ch):Int:=match o with | none=>-1 | some x=>x.1
def lastP (l:List Jb)(G:List Nat):Int:=match G.getLast? with | none=>-1 | some i=>(jat l i).pr
instance:Inhabited Mc:=⟨⟨⟨#[]⟩,0,0,0,none,0,0,false,0⟩⟩
def nmAt (L:List Ml) (i:Nat):ByteArray:=(L.getD i default).1.nm
theorem nmAt_at {L:List Ml}{i:Nat}(h:i<L.length):nmAt L i=L[i].1.nm:=by simp [nmAt,List.getD,List.getElem?_eq_getElem h]
def betr (L:List Ml) (k g:Nat) (la:Int)(o:Option Ch):Bool:=match o with
 | none=>true
 | some x=>decide (g<x.2.1) || (decide (g=x.2.1) && (decide (la<x.2.2) || (decide (la=x.2.2) && sL (nmAt L k) (nmAt L x.1))))
theorem betr_some (L:List Ml) (k g:Nat) (la:Int) (b m:Nat) (tp:Int):betr L k g la (some (b,m,tp))=(decide (g<m) || (decide (g=m) && (decide (la<tp) || (decide (la=tp) && sL (nmAt L k) (nmAt L b))))):=rfl
def cho (pl:Nat->Option (List Nat))(l:List Jb)(L:List Ml):Nat->Option Ch
 | 0=>none
 | k+1=>match pl k with
  | none=>cho pl l L k
  | some G=>if betr L k G.length (lastP l G) (cho pl l L k) then some (k,G.length,lastP l G) else cho pl l L k
theorem cho_no {pl:Nat->Option (List Nat)}{l:List Jb}{L:List Ml}{k:Nat}(h:pl k=none):cho pl l L (k+1)=cho pl l L k:=by rw [cho,h]
theorem cho_yes {pl:Nat->Option (List Nat)}{l:List Jb}{L:List Ml}{k:Nat}{G:List Nat}(h:pl k=some G):cho pl l L (k+1)=if betr L k G.length (lastP l G) (cho pl l L k) then some (k,G.length,lastP l G) else cho pl l L k:=by rw [cho,h]
def plansOf (L:List Ml)(t:Kt)(tl:List Lb)(l:List Jb) (i:Nat):Option (List Nat):=places (L.getD i default).1 (L.getD i default).2 t tl l
theorem plansOf_at {L:List Ml}{t:Kt}{tl:List Lb}{l:List Jb}{i:Nat}(h:i<L.length):plansOf L t tl l i=places L[i].1 L[i].2 t tl l:=by simp [plansOf,List.getD,List.getElem?_eq_getElem h]
def RetC (b:Nat)(w:World)(e:Ending)(s:ByteArray)(l:List ByteArray)(x:Bool):Prop:=∃ v,e = .returned (.tuple #[.string s,v,.bool x])/\OwnK w b 9 1 v (cellsS l)
def chN (L:List Ml)(o:Option Ch):ByteArray:=match o with | none=>⟨#[]⟩ | some x=>nmAt L x.1
def chG (L:List Ml)(t:Kt)(tl:List Lb)(l:List Jb)(o:Option Ch):List ByteArray:=match o with | none=>[] | some x=>namesAt l ((plansOf L t tl l x.1).getD [])
end
section
open Go.RowKit
section
variable {m:Mc}{ml:List Lb}{t:Kt}{tl:List Lb} {l l':List Jb}{p q s:Int}{G:List Nat}{k:Nat}
theorem why_4 (h:why m ml t tl l=4):∃ p q s,freM m l=(p,q,s,0)/\m.ok ml=true/\t.ok tl=true/\m.up=true/\hasB ml tl=true/\rep m.nm t.ap t.nm l=false/\fB t.a t.b t.c p q s=false:=by
 obtain ⟨f,hf⟩:∃ f,freM m l=f:=⟨_,rfl⟩
 obtain ⟨p,q,s,e⟩:=f
 unfold why whyT at h
 rw [hf] at h
 by_cases he:e=0
 case neg=>rw [if_neg he] at h;cases h
 subst he
 rw [if_pos rfl] at h
 refine ⟨p,q,s,hf,?_⟩
 cases c1:m.ok ml
 ·rw [c1] at h;simp at h
 cases c2:t.ok tl
 ·rw [c1,c2] at h;simp at h
 cases c3:m.up
 ·rw [c1,c2,c3] at h;simp at h
 cases c4:hasB ml tl
 ·rw [c1,c2,c3,c4] at h;simp at h
 cases c5:rep m.nm t.ap t.nm l
 case true=>rw [c1,c2,c3,c4,c5] at h;simp at h
 cases c6:fB t.a t.b t.c p q s
 ·exact ⟨rfl,rfl,rfl,rfl,rfl,rfl⟩
 ·rw [c1,c2,c3,c4,c5] at h;simp [c6] at h
theorem jat_map (l:List Jb):(List.range l.length).map (jat l)=l:=by
 apply List.ext_getElem (by simp)
 intro i h1 h2
 simp only [List.getElem_map,List.getElem_range]
 exact jat_at h2
theorem outJ_nil (l:List Jb):outJ [] l l.length=l:=by
 unfold outJ
 rw [List.filter_eq_self.2 (by simp)]
 exact jat_map l
theorem outJ_mono {G G':List Nat}(h:∀ i ∈ G,i ∈ G')(l:List Jb) (k:Nat):(outJ G' l k).Sublist (outJ G l k):=by
 unfold outJ
 refine List.Sublist.map _ ?_
 have e:(List.range k).filter (fun i=>!(G'.contains i))=((List.range k).filter (fun i=>!(G.contains i))).filter (fun i=>!(G'.contains i)):=by
  rw [List.filter_filter]
  refine List.filter_congr fun i _=>?_
  cases h1:G'.contains i
  ·cases h2:G.contains i
   ·rfl
   ·rw [List.contains_iff_mem] at h2
    have:=h i h2
    rw [<- List.contains_iff_mem,h1] at this;cases this
  ·rfl
 rw [e]
 exact List.filter_sublist
theorem outJ_sub (G:List Nat)(l:List Jb):(outJ G l l.length).Sublist l:=by
 have h:=outJ_mono (G:=[]) (G':=G) (fun i hi=>by cases hi) l l.length
 rwa [outJ_nil] at h
theorem fewest_min {p:Nat->Bool}:∀ {f k r:Nat},fewest p f k=some r -> ∀ i,k<=i->i<r->p i=false
 | 0,k,r,h=>by simp [fewest] at h
 | f+1,k,r,h=>by
  rw [fewest] at h
  split at h
  ·injection h with h;subst h;intro i h1 h2;omega
  ·rename_i hp
   intro i h1 h2
   by_cases e:i=k
   ·subst e;simpa using hp
   ·exact fewest_min h i (by omega) h2
theorem places_is (h:places m ml t tl l=some G):(why m ml t tl l=0/\G=[]) ∨ ∃ k,why m ml t tl l=4/\1<=k/\k<=(weak m t l l.length).length/\G=(weak m t l l.length).take k/\okK m t l (weak m t l l.length) k=true /\ ∀ i,1<=i->i<k->okK m t l (weak m t l l.length) i=false:=by
 unfold places at h
 split at h
 ·rename_i h0
  injection h with h
  exact .inl ⟨h0,h.symm⟩
 ·split at h
  ·rename_i h4
   rw [Option.map_eq_some_iff] at h
   obtain ⟨k,hk,rfl⟩:=h
   obtain ⟨h1,h2,h3⟩:=fewest_le hk
   exact .inr ⟨k,h4,h1,by omega,rfl,h3,fewest_min hk⟩
  ·cases h
theorem plan_each (h:places m ml t tl l=some G):∀ i ∈ G,i<l.length/\(jat l i).nd=m.nm/\(jat l i).pr<t.pr:=by
 intro i hi
 refine ⟨places_lt h i hi,?_⟩
 rcases places_is h with ⟨h0,rfl⟩ | ⟨k,h4,h1,h2,rfl,_,hm⟩
 ·cases hi
 ·have:=wk_ok _ i (List.mem_of_mem_take hi)
  unfold wkC at this
  rw [Bool.and_eq_true,sE_iff,decide_eq_true_eq] at this
  exact this
end
end
section
open Go.RowKit
section
variable {a b c:Jb}
theorem goB_iff:goB a b=true ↔ a.pr<b.pr ∨ (a.pr=b.pr/\b.sq<a.sq):=by unfold goB;simp
theorem goB_no:goB a b=false ↔ ¬ (a.pr<b.pr)/\(a.pr=b.pr -> ¬ b.sq<a.sq):=by unfold goB;simp
theorem goB_irrefl (a:Jb):goB a a=false:=by rw [goB_no];omega
theorem goB_asymm (h:goB a b=true):goB b a=false:=by rw [goB_iff] at h;rw [goB_no];omega
theorem goB_trans (h:goB a b=true)(k:goB b c=true):goB a c=true:=by rw [goB_iff] at *;omega
theorem goB_ntrans (h:goB a b=false)(k:goB b c=false):goB a c=false:=by rw [goB_no] at *;omega
end
section
variable {m:Mc}{t:Kt}{l:List Jb}
def wkJ (m:Mc)(t:Kt)(j:Jb):Bool:=sE j.nd m.nm && decide (j.pr<t.pr)
theorem weak_perm (m:Mc)(t:Kt)(l:List Jb) (k:Nat):(weak m t l k).Perm ((List.range k).filter (wkC m t l)):=wk_perm k
theorem weak_fore (m:Mc)(t:Kt)(l:List Jb) (k:Nat):(weak m t l k).Pairwise (Fore fun i y=>goB (jat l i) (jat l y)):=wk_fore (ah:=fun i y=>goB (jat l i) (jat l y)) (fun u v h=>goB_asymm h) (fun u v w h k=>goB_ntrans h k) k
theorem weak_one {k:Nat}{W:List Nat}(h1:W.Pairwise (Fore fun i y=>goB (jat l i) (jat l y)))(h2:W.Perm ((List.range k).filter (wkC m t l))):W=weak m t l k:=
 fore_one (ah:=fun i y=>goB (jat l i) (jat l y)) (fun u v h=>goB_asymm h) h1 (weak_fore m t l k) (h2.trans (weak_perm m t l k).symm)
theorem weak_nodup (k:Nat):(weak m t l k).Nodup:=wk_nodup k
def weakJ (m:Mc)(t:Kt)(l:List Jb):List Jb:=(weak m t l l.length).map (jat l)
theorem filter_jat (p:Jb->Bool)(l:List Jb):((List.range l.length).filter fun i=>p (jat l i)).map (jat l)=l.filter p:=by
 have e:l.filter p=((List.range l.length).map (jat l)).filter p:=by rw [jat_map]
 rw [e,List.filter_map];rfl
theorem weakJ_len:(weakJ m t l).length=(weak m t l l.length).length:=by simp [weakJ]
theorem outJ_perm {G:List Nat}(hn:G.Nodup)(hG:∀ i ∈ G,i<l.length):(outJ G l l.length ++ G.map (jat l)).Perm l:=by
 have h1:((List.range l.length).filter (fun i=>!(G.contains i)) ++ G).Perm (List.range l.length):=by
  have h2:G.Perm ((List.range l.length).filter fun i=>G.contains i):=by
   refine (List.perm_ext_iff_of_nodup hn (List.Nodup.sublist List.filter_sublist List.nodup_range)).2 fun i=>?_
   rw [List.mem_filter,List.mem_range,List.contains_iff_mem]
   exact ⟨fun h=>⟨hG i h,h⟩,fun h=>h.2⟩
  refine (List.Perm.append_left _ h2).trans ?_
  refine List.perm_append_comm.trans ?_
  exact List.filter_append_perm _ _
 have h3:=h1.map (jat l)
 rw [List.map_append,jat_map] at h3
 exact h3
end
end
section
open Go.RowKit
section
variable {pl:Nat->Option (List Nat)}{l:List Jb}{L:List Ml}{k i:Nat} {g g' g'':Nat} {a a' a'':Int}
theorem betr_iff {b m:Nat}{tp:Int}:betr L k g a (some (b,m,tp))=true ↔ g<m ∨ (g=m/\(a<tp ∨ (a=tp/\sL (nmAt L k) (nmAt L b)=true))):=by rw [betr_some];simp
theorem betr_not {b m:Nat}{tp:Int}:betr L k g a (some (b,m,tp))=false ↔ ¬ g<m/\(g=m -> ¬ a<tp/\(a=tp->sL (nmAt L k) (nmAt L b)=false)):=by
 rw [betr_some];simp
theorem betr_self (L:List Ml) (k g:Nat) (a:Int):betr L k g a (some (k,g,a))=false:=by
 rw [betr_not];exact ⟨by omega,fun _=>⟨by omega,fun _=>sL_irrefl _⟩⟩
theorem sL_not {x y z:ByteArray}(h1:sL x y=false)(h2:sL z y=true):sL x z=false:=by
 cases h:sL x z
 ·rfl
 ·rw [sL_trans h h2] at h1;cases h1
theorem betr_keep {j b m:Nat}{tp:Int}(h1:betr L j g' a' (some (b,m,tp))=false)(h2:betr L k g a (some (b,m,tp))=true):betr L j g' a' (some (k,g,a))=false:=by
 rw [betr_not] at h1 ⊢
 rw [betr_iff] at h2
 obtain ⟨n1,n2⟩:=h1
 rcases h2 with h2 | ⟨e1,h2⟩
 ·exact ⟨by omega,fun e=>by omega⟩
 ·subst e1
  refine ⟨n1,fun e=>?_⟩
  obtain ⟨n3,n4⟩:=n2 e
  rcases h2 with h2 | ⟨e2,h2⟩
  ·exact ⟨by omega,fun e3=>by omega⟩
  ·subst e2
   exact ⟨n3,fun e3=>sL_not (n4 e3) h2⟩
theorem cho_none:∀ {k:Nat},cho pl l L k=none -> ∀ i,i<k->pl i=none
 | 0,h,i,hi=>by omega
 | k+1,h,i,hi=>by
  cases hp:pl k with
  | none=>
   rw [cho_no hp] at h
   by_cases e:i=k
   ·subst e;exact hp
   ·exact cho_none h i (by omega)
  | some G=>
   rw [cho_yes hp] at h
   split at h
   ·cases h
   ·rename_i hb
    rw [h] at hb
    exact absurd rfl hb
theorem cho_is:∀ {k:Nat}{x:Ch},cho pl l L k=some x->(∃ G,pl x.1=some G/\x.2.1=G.length/\x.2.2=lastP l G/\x.1<k) /\ ∀ i,i<k -> ∀ G',pl i=some G' -> betr L i G'.length (lastP l G') (some x)=false
 | 0,x,h=>by simp [cho] at h
 | k+1,x,h=>by
  cases hp:pl k with
  | none=>
   rw [cho_no hp] at h
   obtain ⟨⟨G,h1,h2,h3,h4⟩,h5⟩:=cho_is h
   refine ⟨⟨G,h1,h2,h3,by omega⟩,fun i hi G' hG'=>?_⟩
   by_cases e:i=k
   ·subst e;rw [hp] at hG';cases hG'
   ·exact h5 i (by omega) G' hG'
  | some G=>
   rw [cho_yes hp] at h
   split at h
   ·rename_i hb
    injection h with h;subst h
    refine ⟨⟨G,hp,rfl,rfl,by simp⟩,fun i hi G' hG'=>?_⟩
    by_cases e:i=k
    ·subst e;rw [hp] at hG';injection hG' with hG';subst hG';exact betr_self _ _ _ _
    ·cases ho:cho pl l L k with
     | none=>exact absurd hG' (by rw [cho_none ho i (by omega)];simp)
     | some y=>
      rw [ho] at hb
      exact betr_keep ((cho_is ho).2 i (by omega) G' hG') hb
   ·rename_i hb
    obtain ⟨⟨G0,h1,h2,h3,h4⟩,h5⟩:=cho_is h
    refine ⟨⟨G0,h1,h2,h3,by omega⟩,fun i hi G' hG'=>?_⟩
    by_cases e:i=k
    ·subst e;rw [hp] at hG';injection hG' with hG';subst hG'
     rw [h] at hb
     simpa using hb
    ·exact h5 i (by omega) G' hG'
end
end
section
open Go.RowKit
theorem s_perm {l m:List V3}(h:l.Perm m):s1 l=s1 m/\s2 l=s2 m/\s3 l=s3 m:=by
 induction h with
 | nil=>exact ⟨rfl,rfl,rfl⟩
 | cons x _ ih=>rw [s1_cons,s2_cons,s3_cons,s1_cons,s2_cons,s3_cons,ih.1,ih.2.1,ih.2.2];exact ⟨rfl,rfl,rfl⟩
 | swap x y l=>simp only [s1_cons,s2_cons,s3_cons];refine ⟨?_,?_,?_⟩ <;> omega
 | trans _ _ i1 i2=>exact ⟨i1.1.trans i2.1,i1.2.1.trans i2.2.1,i1.2.2.trans i2.2.2⟩
section
variable {m:Mc}{ml:List Lb}{t:Kt}{tl:List Lb}{l l1 l2:List Jb}
def planJ (m:Mc)(ml:List Lb)(t:Kt)(tl:List Lb)(l:List Jb):Option (List Jb):=(places m ml t tl l).map fun G=>G.map (jat l)
def lastJ (J:List Jb):Int:=match J.getLast? with | none=>-1 | some j=>j.pr
theorem lastP_is (l:List Jb)(G:List Nat):lastP l G=lastJ (G.map (jat l)):=by
 unfold lastP lastJ
 rw [List.getLast?_map]
 cases G.getLast? <;> rfl
theorem namesAt_is (l:List Jb)(G:List Nat):namesAt l G=(G.map (jat l)).map Jb.nm:=by
 unfold namesAt
 rw [List.map_map];rfl
end
section
variable {t:Kt}{tl:List Lb}{l:List Jb}{L:List Ml}
end
end
section
open Go.RowKit
theorem filter_takeJ (p:Jb->Bool){l:List Jb}{k:Nat}(h:k<l.length):(l.take (k+1)).filter p=(l.take k).filter p ++ if p l[k] then [l[k]] else []:=by
 rw [List.take_succ_eq_append_getElem h,List.filter_append]
 congr 1
 cases hp:p l[k] <;> simp [hp]
section
variable {m:Mc}{ml:List Lb}{t:Kt}{tl:List Lb}{l:List Jb} {p q s a b c a' b' c':Int}{W:List Nat}{k:Nat}
def frK (m:Mc)(l:List Jb)(W:List Nat) (k:Nat):Int × Int × Int × Int:=freM m (outJ (W.take k) l l.length)
theorem frK_0:frK m l W 0=freM m l:=by unfold frK;rw [List.take_zero,outJ_nil]
theorem frK_err (h:freM m l=(p,q,s,0))(W:List Nat) (k:Nat):∃ a b c,frK m l W k=(a,b,c,0):=by
 obtain ⟨p',q',s',h',_⟩:=freM_less h (outJ_sub (W.take k) l)
 exact ⟨_,_,_,h'⟩
theorem out_step (hn:W.Nodup)(hW:∀ i ∈ W,i<l.length)(hk:k<W.length):(outJ (W.take k) l l.length).Perm (outJ (W.take (k+1)) l l.length ++ [jat l W[k]]):=by
 have e1:=outJ_perm (l:=l) (G:=W.take k) (hn.sublist (List.take_sublist _ _)) (fun i hi=>hW i (List.mem_of_mem_take hi))
 have e2:=outJ_perm (l:=l) (G:=W.take (k+1)) (hn.sublist (List.take_sublist _ _)) (fun i hi=>hW i (List.mem_of_mem_take hi))
 have e3:(W.take (k+1)).map (jat l)=(W.take k).map (jat l) ++ [jat l W[k]]:=by rw [List.take_succ_eq_append_getElem hk,List.map_append];rfl
 rw [e3] at e2
 have e4:=e1.trans e2.symm
 have e5:(outJ (W.take (k+1)) l l.length ++ ((W.take k).map (jat l) ++ [jat l W[k]])).Perm ((outJ (W.take (k+1)) l l.length ++ [jat l W[k]]) ++ (W.take k).map (jat l)):=by
  rw [List.append_assoc];exact List.Perm.append_left _ List.perm_append_comm
 exact (List.perm_append_right_iff _).1 (e4.trans e5)
theorem frK_step (hn:W.Nodup)(hW:∀ i ∈ W,i<l.length/\(jat l i).nd=m.nm)(hk:k<W.length)(h1:frK m l W k=(a,b,c,0))(h2:frK m l W (k+1)=(a',b',c',0)) :
  adB a b c (jat l W[k]).a (jat l W[k]).b (jat l W[k]).c=true/\a' = a+(jat l W[k]).a/\b' = b+(jat l W[k]).b/\c' = c+(jat l W[k]).c:=by
 have hp:=out_step hn (fun i hi=>(hW i hi).1) hk
 have ho:=(hW _ (List.getElem_mem hk)).2
 unfold frK at h1 h2
 obtain ⟨r1,r2,r3,r4,r5,r6⟩:=freM_0 h1
 obtain ⟨g1,g2,g3,g4,g5,g6⟩:=freM_0 h2
 generalize outJ (W.take k) l l.length=X at *
 generalize outJ (W.take (k+1)) l l.length=Y at *
 generalize jat l W[k]=j at *
 have hon:onM m.nm (Y ++ [j])=onM m.nm Y ++ [j.need]:=by rw [onM_append];congr 1;unfold onM;simp [ho,sE_refl]
 have hq:(onM m.nm X).Perm (onM m.nm Y ++ [j.need]):=by rw [<- hon];unfold onM;exact (hp.filter _).map _
 obtain ⟨t1,t2,t3⟩:=s_perm hq
 have u1:s1 (onM m.nm Y ++ [j.need])=s1 (onM m.nm Y)+j.a:=by rw [s1_append];simp [s1,Jb.need]
 have u2:s2 (onM m.nm Y ++ [j.need])=s2 (onM m.nm Y)+j.b:=by rw [s2_append];simp [s2,Jb.need]
 have u3:s3 (onM m.nm Y ++ [j.need])=s3 (onM m.nm Y)+j.c:=by rw [s3_append];simp [s3,Jb.need]
 have hj:rB j.a j.b j.c=true:=r1 j.need (hq.symm.subset (by simp))
 have ea:a' = a+j.a:=by omega
 have eb:b' = b+j.b:=by omega
 have ec:c' = c+j.c:=by omega
 refine ⟨?_,ea,eb,ec⟩
 unfold adB
 rw [r6,hj,<- ea,<- eb,<- ec,g6]
 rfl
theorem weak_in:∀ i ∈ weak m t l l.length,i<l.length/\(jat l i).nd=m.nm:=by
 intro i hi
 refine ⟨wk_lt _ i hi,?_⟩
 have:=wk_ok _ i hi
 unfold wkC at this
 rw [Bool.and_eq_true,sE_iff] at this
 exact this.1
theorem okK_is (h:frK m l W k=(a,b,c,0)):okK m t l W k=fB t.a t.b t.c a b c:=by
 unfold frK at h
 unfold okK
 rw [h]
 simp
theorem planJ_0 (h:why m ml t tl l=0):planJ m ml t tl l=some []:=by unfold planJ places;rw [if_pos h];rfl
theorem planJ_4 (h:why m ml t tl l=4):planJ m ml t tl l=(fewest (okK m t l (weak m t l l.length)) (weak m t l l.length).length 1).map fun k=>(weakJ m t l).take k:=by
 unfold planJ places weakJ
 rw [if_neg (by rw [h];decide),if_pos h,Option.map_map]
 congr 1
 funext k
 show ((weak m t l l.length).take k).map (jat l)=_
 rw [List.map_take]
theorem planJ_no (h0:why m ml t tl l ≠ 0)(h4:why m ml t tl l ≠ 4):planJ m ml t tl l=none:=by unfold planJ places;rw [if_neg h0,if_neg h4];rfl
theorem weakJ_at {i:Nat}(h:i<(weakJ m t l).length):(weakJ m t l)[i]=jat l ((weak m t l l.length)[i]'(by rw [<- weakJ_len];exact h)):=by simp [weakJ]
theorem weakJ_one {W:List Nat}(h1:W.Perm (List.range (l.filter (wkJ m t)).length))(h2:W.Pairwise (Fore fun i y=>goB (jat (l.filter (wkJ m t)) i) (jat (l.filter (wkJ m t)) y))):W.map (jat (l.filter (wkJ m t)))=weakJ m t l:=by
 obtain ⟨P,hP⟩:∃ P,P=(List.range l.length).filter (wkC m t l):=⟨_,rfl⟩
 have hf:P.map (jat l)=l.filter (wkJ m t):=by rw [hP];exact filter_jat (wkJ m t) l
 have hl:(l.filter (wkJ m t)).length=P.length:=by rw [<- hf,List.length_map]
 have hj:∀ i,i<P.length->jat (l.filter (wkJ m t)) i=jat l (P.getD i 0):=by
  intro i hi
  rw [jat_at (by omega:i<(l.filter (wkJ m t)).length)]
  simp only [<- hf,List.getElem_map,List.getD,List.getElem?_eq_getElem hi,Option.getD_some]
 have hW:∀ i ∈ W,i<P.length:=fun i hi=>by have:=List.mem_range.1 (h1.subset hi);omega
 have hPs:P.Pairwise (· < ·):=by rw [hP];exact List.Pairwise.filter _ List.pairwise_lt_range
 have hlt:∀ i y,i<y->y<P.length->P.getD i 0<P.getD y 0:=by
  intro i y h hy
  simp only [List.getD,List.getElem?_eq_getElem hy,List.getElem?_eq_getElem (show i<P.length by omega),Option.getD_some]
  exact List.pairwise_iff_getElem.1 hPs i y (by omega) hy h
 have hV:W.map (fun i=>P.getD i 0)=weak m t l l.length:=by
  refine weak_one ?_ ?_
  ·rw [List.pairwise_map]
   refine List.Pairwise.imp_of_mem (fun {x y} hx hy h=>?_) h2
   unfold Fore at h ⊢
   simp only at h ⊢
   rw [hj x (hW x hx),hj y (hW y hy)] at h
   rcases h with h | ⟨h,k⟩
   ·exact .inl h
   ·exact .inr ⟨h,hlt x y k (hW y hy)⟩
  ·refine (h1.map _).trans ?_
   rw [hl,<- hP]
   have:(List.range P.length).map (fun i=>P.getD i 0)=P:=by
    apply List.ext_getElem (by simp)
    intro i h1 h2
    simp [List.getD]
    simp at h1
    rw [List.getElem?_eq_getElem h1];rfl
   rw [this]
 unfold weakJ
 rw [<- hV,List.map_map]
 refine List.map_congr_left fun i hi=>?_
 exact hj i (hW i hi)
end
end
section
open Go.RowKit Go.Sort
def cfJ (x y:Jb):Int:=or2 (cI x.pr y.pr) (cI y.sq x.sq)
theorem cfJ_go (x y:Jb):decide (cfJ x y<0)=goB x y:=by
 unfold cfJ goB or2
 by_cases h:x.pr=y.pr
 ·rw [if_pos (cI_zero.2 h),decide_eq_false (show ¬ x.pr<y.pr by omega),decide_eq_true h]
  simp only [Bool.false_or,Bool.true_and]
  rw [decide_eq_decide];exact cI_neg
 ·rw [if_neg (fun e=>h (cI_zero.1 e)),decide_eq_false h]
  simp only [Bool.false_and,Bool.or_false]
  rw [decide_eq_decide];exact cI_neg


theorem cmpJ_any (x y:Jb)(w:World) :
  Calls Tryz.prog 235 #[.agg x.arr,.agg y.arr] w fun e w'=>e = .returned (.int .i64 (cfJ x y))/\Gw w w':=by
 have k1:=fun W=>compareI_any x.pr y.pr W
 have k2:=fun W=>compareI_any y.sq x.sq W
 have k3:=fun (x y:Int) (g:Nat) W=>or2_any x y g W
 obtain ⟨r,hr⟩:∃ r,r=cfJ x y:=⟨_,rfl⟩
 rw [<- hr]
 unfold cfJ at hr
 generalize cI x.pr y.pr=p at k1 hr
 generalize cI y.sq x.sq=q at k2 hr
 have K1:=Lib.hid k1;have K2:=Lib.hid k2;have K3:=Lib.hid k3;have HR:=Lib.hid hr;clear k1 k2 k3 hr
 go_enter Tryz.func235,Tryz.ntmps235
 go_wp2_with fail
 have hg0:Gw w ((w.alloc (.cells x.arr 66)).alloc (.cells y.arr 66)):=((Gw.refl w).alloc _).alloc _
 have hA0:=(Bk.fresh w 66 x.arr).later (w':=(w.alloc (.cells x.arr 66)).alloc (.cells y.arr 66)) ((Below.refl _ _).alloc (Nat.le_refl _) _)
 have hC0:Bk ((w.alloc (.cells x.arr 66)).alloc (.cells y.arr 66)) (w.heap.size+1) 66 y.arr:=Bk.freshAt _ _ _ (by simp)
 generalize hw1:(w.alloc (.cells x.arr 66)).alloc (.cells y.arr 66)=w1 at hg0 hA0 hC0 ⊢
 clear hw1
 have la:w.heap.size<w1.heap.size:=hA0.here
 have lc:w.heap.size+1<w1.heap.size:=hC0.here
 have a0:w1.cell? ⟨w.heap.size,2,none⟩=some (.int .i64 x.pr):=hA0.cellAt 2
 have a1:w1.cell? ⟨w.heap.size,10,none⟩=some (.int .i64 x.sq):=hA0.cellAt 10
 have c0:w1.cell? ⟨w.heap.size+1,2,none⟩=some (.int .i64 y.pr):=hC0.cellAt 2
 have c1:w1.cell? ⟨w.heap.size+1,10,none⟩=some (.int .i64 y.sq):=hC0.cellAt 10
 have A0:=Lib.hid a0;have A1:=Lib.hid a1;have C0:=Lib.hid c0;have C1:=Lib.hid c1;have LA:=Lib.hid la;have LC:=Lib.hid lc;have HG0:=Lib.hid hg0
 clear hA0 hC0 a0 a1 c0 c1 la lc hg0
 refine wp_region_held_drew (S:=fun W=>Gw w1 W) (by kernel_rfl) ((Gw.refl _).drew) (fun hS0=>?_)
 refine wU (i:=0) (v:=?_) rfl ?_ hS0 ?_
 rotate_left
 ·intro W _;go_simp;try with_reducible rfl
 try simp only [Act.put,tZ]
 refine wU (i:=1) (v:=?_) rfl ?_ hS0 ?_
 rotate_left
 ·intro W _;go_simp;try with_reducible rfl
 try simp only [Act.put,tZ]
 refine wU (i:=2) (v:=?_) rfl ?_ hS0 ?_
 rotate_left
 ·intro W hSW;have hx:=(hSW.cell LA.out).trans A0.out;go_simp;try with_reducible rfl
 try simp only [Act.put,tZ]
 refine wU (i:=3) (v:=?_) rfl ?_ hS0 ?_
 rotate_left
 ·intro W _;go_simp;try with_reducible rfl
 try simp only [Act.put,tZ]
 refine wU (i:=4) (v:=?_) rfl ?_ hS0 ?_
 rotate_left
 ·intro W _;go_simp;try with_reducible rfl
 try simp only [Act.put,tZ]
 refine wU (i:=5) (v:=?_) rfl ?_ hS0 ?_
 rotate_left
 ·intro W hSW;have hx:=(hSW.cell LC.out).trans C0.out;go_simp;try with_reducible rfl
 try simp only [Act.put,tZ]
 refine wU (i:=7) (v:=?_) rfl ?_ hS0 ?_
 rotate_left
 ·intro W _;go_simp;try with_reducible rfl
 try simp only [Act.put,tZ]
 refine wU (i:=8) (v:=?_) rfl ?_ hS0 ?_
 rotate_left
 ·intro W hSW;have hx:=(hSW.cell LC.out).trans C1.out;go_simp;try with_reducible rfl
 try simp only [Act.put,tZ]
 refine wU (i:=9) (v:=?_) rfl ?_ hS0 ?_
 rotate_left
 ·intro W _;go_simp;try with_reducible rfl
 try simp only [Act.put,tZ]
 refine wU (i:=10) (v:=?_) rfl ?_ hS0 ?_
 rotate_left
 ·intro W hSW;have hx:=(hSW.cell LA.out).trans A1.out;go_simp;try with_reducible rfl
 try simp only [Act.put,tZ]
 refine wpAnyH_ready (rs:=[6]) (by kernel_rfl) (by simp) ?_
 refine AllReadyH.cons rfl (fun K hK=>?_) AllReadyH.nil
 go_simp
 refine (K1.out _).mono ?_
 rintro v v1 ⟨rfl,rfl⟩
 go_simp
 refine hK.out _ _ hS0 (fun hS1=>?_)
 clear hK K
 try simp only [Act.put,tZ]
 refine wpAnyH_ready (rs:=[11]) (by kernel_rfl) (by simp) ?_
 refine AllReadyH.cons rfl (fun K hK=>?_) AllReadyH.nil
 go_simp
 refine (K2.out _).mono ?_
 rintro v v2 ⟨rfl,rfl⟩
 go_simp
 refine hK.out _ _ hS1 (fun hS2=>?_)
 clear hK K
 try simp only [Act.put,tZ]
 refine wpAnyH_ready (rs:=[12]) (by kernel_rfl) (by simp) ?_
 refine AllReadyH.cons rfl (fun K hK=>?_) AllReadyH.nil
 simp only [if_pos,Region.wanted]
 refine itwo_op 11 16 p q rfl rfl rfl ?_
 intro g v3 hg hv3
 subst hg hv3
 refine hK.out _ _ (hS2.alloc _) (fun hS3=>?_)
 clear hK K
 try simp only [Act.put,tZ]
 refine wpAnyH_ready (rs:=[13]) (by kernel_rfl) (by simp) ?_
 refine AllReadyH.cons rfl (fun K hK=>?_) AllReadyH.nil
 go_simp
 refine (K3.out p q _ _ (by simp) (by simp) (by simp)).mono ?_
 rintro v v4 ⟨rfl,rfl⟩
 go_simp
 refine hK.out _ _ hS3 (fun hS4=>?_)
 clear hK K
 try simp only [Act.put,tZ]
 refine wU (i:=14) (v:=?_) rfl ?_ hS4 ?_
 rotate_left
 ·intro W _;go_simp;try with_reducible rfl
 try simp only [Act.put,tZ]
 refine wpAnyH_done (by kernel_rfl) ?_ _
 go_wp2_with fail
 go_ret
 exact ⟨HR.out.symm ▸ rfl,HG0.out.trans hS4⟩
end
end Go.Proofs.YtccccbofcnmdiaaGreat
