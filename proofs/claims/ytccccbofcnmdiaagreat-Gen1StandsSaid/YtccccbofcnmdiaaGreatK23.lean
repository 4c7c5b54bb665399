/- Lemmas that the law stands on. No condition. -/
import Derived.Test.YtccccbofcnmdiaaGreatK22
namespace Go.Proofs.YtccccbofcnmdiaaGreat
set_option linter.unusedSimpArgs false
set_option linter.unusedVariables false
set_option maxRecDepth 100000
set_option maxHeartbeats 51200000
section
open Go.RowKit
theorem alike_at {α β:Type}{f:α->β}{L M:List α}(h:L.map f=M.map f){k:Nat}(h1:k<L.length)(h2:k<M.length):f L[k]=f M[k]:=by
 have:=congrArg (fun l=>l[k]?) h
 simpa [h1,h2] using this
theorem sameNodeB_refl (nm:ByteArray) (a b c:Int)(l:List Lb):sameNodeB nm a b c l nm a b c l=true:=by
 unfold sameNodeB;simp [sE_refl,eq3,sameB]
theorem sameTaskB_refl (nm qu:ByteArray) (pr a b c:Int)(l:List Lb)(ap ga:ByteArray) (sz:Int):sameTaskB nm qu pr a b c l ap ga sz nm qu pr a b c l ap ga sz=true:=by
 unfold sameTaskB;simp [sE_refl,eq3,sameB]
theorem run_guardQ15 (op:BinOp)(x y:Operand)(xs ys:Array Value)(w:World):(eqGuard op 45 x y (.agg xs) (.agg ys)).run Tryz.prog w = .ok () w:=run_eqGuard_agg w op 45 x y xs ys (by kernel_rfl)


theorem same15_yes (v u:Sv)(S T:Sg)(w:World)(hS:Hid (RdSt w v S))(hT:Hid (RdSt w u T))(hE:S.bare=T.bare) :
  Calls Tryz.prog 19 #[.agg v.arr,.agg u.arr] w fun e w'=>e = .returned (.bool true)/\Below w.heap.size w w':=by
 obtain ⟨ck,nx,A,N,cA,B,K0,cB,C,n,cC⟩:=v
 obtain ⟨ck2,nx2,A2,N2,cA2,B2,K2,cB2,C2,n2,cC2⟩:=u
 have hM:S.M.map bX=T.M.map bX:=congrArg Sg.M hE
 have hJ:S.J.map bY=T.J.map bY:=congrArg Sg.J hE
 have hQ:S.Q=T.Q:=(congrArg Sg.Q hE:S.bare.Q=T.bare.Q)
 have hNl:=hS.out.N;have hNt:=hT.out.N;have hKl:=hS.out.K;have hKt:=hT.out.K;have hnl:=hS.out.n;have hnt:=hT.out.n
 simp only at hNl hNt hKl hKt hnl hnt
 have e1:ck=ck2:=hS.out.ck.trans ((congrArg Sg.ck hE).trans hT.out.ck.symm)
 have e2:nx=nx2:=hS.out.nx.trans ((congrArg Sg.nx hE).trans hT.out.nx.symm)
 have e3:N=N2:=by rw [hNl,hNt];have:=congrArg List.length hM;simpa using this
 have e4:K0=K2:=by rw [hKl,hKt,hQ]
 have e5:n=n2:=by rw [hnl,hnt];have:=congrArg List.length hJ;simpa using this
 subst e1 e2 e3 e4 e5
 have HNl:=Lib.hid hNl;have HNt:=Lib.hid hNt;have HKl:=Lib.hid hKl;have HKt:=Lib.hid hKt;have Hnl:=Lib.hid hnl;have Hnt:=Lib.hid hnt
 have HM:=Lib.hid hM;have HJ:=Lib.hid hJ;have HQ:=Lib.hid hQ
 have hNc:N<=cA:=hS.out.cA
 have hNc2:cA<=9223372036854775807:=hS.out.cA2
 have hKc:K0<=cB:=hS.out.cB
 have hKc2:cB<=9223372036854775807:=hS.out.cB2
 have hnc:n<=cC:=hS.out.cC
 have hnc2:cC<=9223372036854775807:=hS.out.cC2
 clear hM hJ hQ hE hNl hNt hKl hKt hnl hnt
 obtain ⟨W0,hW0⟩:∃ W0,W0=(w.alloc (.cells #[.int .i64 ck,.int .i64 nx,.slice A N cA,.slice B K0 cB,.slice C n cC] 31)).alloc (.cells #[.int .i64 ck,.int .i64 nx,.slice A2 N cA2,.slice B2 K0 cB2,.slice C2 n cC2] 31):=⟨_,rfl⟩
 have HA0:Hid (Bk W0 w.heap.size 31 #[.int .i64 ck,.int .i64 nx,.slice A N cA,.slice B K0 cB,.slice C n cC]):=by rw [hW0];exact (Bk.fresh w _ _).later ((Below.refl _ _).alloc (Nat.le_refl _) _)
 have HB0:Hid (Bk W0 (w.heap.size+1) 31 #[.int .i64 ck,.int .i64 nx,.slice A2 N cA2,.slice B2 K0 cB2,.slice C2 n cC2]):=by rw [hW0];exact Bk.freshAt _ _ _ (by simp)
 have hb0:Below w.heap.size w W0:=by rw [hW0];exact ((Below.refl _ _).alloc (Nat.le_refl _) _).alloc (by simp) _
 subst hW0
 go_enter Tryz.func19,Tryz.ntmps19
 go_wp2_with fail
 go_loopw [54] (fun i wr=>∃ k:Nat,k<=N/\i = .int .i64 k/\Hid (Bk wr w.heap.size 31 #[.int .i64 ck,.int .i64 nx,.slice A N cA,.slice B K0 cB,.slice C n cC])/\Hid (Bk wr (w.heap.size+1) 31 #[.int .i64 ck,.int .i64 nx,.slice A2 N cA2,.slice B2 K0 cB2,.slice C2 n cC2])/\Below w.heap.size w wr) (fun i wr=>N - (intOf i).toNat)
 case atStart=>exact ⟨0,Nat.zero_le _,rfl,HA0,HB0,hb0⟩
 case round=>
  clear HA0 HB0 hb0
  obtain ⟨k,hk,rfl,HA,HB,hb⟩:=hrel
  have lt1:w.heap.size+1<wr.heap.size:=HB.out.here
  by_cases hlt:k<N
  ·have hl1:k<S.M.length:=by have:=HNl.out;omega
   have hl2:k<T.M.length:=by have:=HNt.out;omega
   obtain ⟨g,o,hAe,hg,hm⟩:=(hS.out.M.later hb).at (i:=k) (by simpa using hl1)
   obtain ⟨g2,o2,hAe2,hg2,hm2⟩:=(hT.out.M.later hb).at (i:=k) (by simpa using hl2)
   subst hAe hAe2
   rw [mcs_at hl1] at hm
   rw [mcs_at hl2] at hm2
   have ho1:=(hS.out.oM.at hl1).later hb
   have ho2:=(hT.out.oM.at hl2).later hb
   have hxy:=alike_at HM.out hl1 hl2
   obtain ⟨x,hx⟩:∃ x,x=S.M[k]:=⟨_,rfl⟩
   obtain ⟨y,hy⟩:∃ y,y=T.M[k]:=⟨_,rfl⟩
   rw [<- hx] at hm ho1 hxy
   rw [<- hy] at hm2 ho2 hxy
   obtain ⟨⟨a0,a1,a2,a3,a4,a5,a6,a7,a8⟩,xl⟩:=x
   obtain ⟨⟨y0,y1,y2,y3,y4,y5,y6,y7,y8⟩,yl⟩:=y
   clear hx hy
   have q0:a0=y0:=congrArg (fun z:Ml=>z.1.nm) hxy
   have q1:a1=y1:=congrArg (fun z:Ml=>z.1.a) hxy
   have q2:a2=y2:=congrArg (fun z:Ml=>z.1.b) hxy
   have q3:a3=y3:=congrArg (fun z:Ml=>z.1.c) hxy
   have q7:a7=y7:=congrArg (fun z:Ml=>z.1.up) hxy
   have q8:a8=y8:=congrArg (fun z:Ml=>z.1.un) hxy
   have q9:xl=yl:=congrArg (fun z:Ml=>z.2) hxy
   subst q0 q1 q2 q3 q7 q8 q9
   clear hxy
   have HM1:=Lib.hid hm;have HM2:=Lib.hid hm2;have HO1:=Lib.hid ho1;have HO2:=Lib.hid ho2
   clear hm hm2 ho1 ho2 hl1 hl2
   have ca:wr.cell? ⟨w.heap.size,2,none⟩=some (.slice (some ⟨g,o,none⟩) N cA):=HA.out.cellAt 2
   have cb:wr.cell? ⟨w.heap.size+1,2,none⟩=some (.slice (some ⟨g2,o2,none⟩) N cA2):=HB.out.cellAt 2
   have CA:=Lib.hid ca;have CB:=Lib.hid cb;clear ca cb
   have ks:=fun (W:World)(h1:McOk W ⟨a0,a1,a2,a3,a4,a5,a6,a7,a8⟩ xl)(h2:McOk W ⟨a0,a1,a2,a3,y4,y5,y6,a7,a8⟩ xl)=>(sameNodeB_refl a0 a1 a2 a3 xl ▸ sameNode_any a0 a1 a2 a3 a4 a5 a6 xl a0 a1 a2 a3 y4 y5 y6 xl W h1.lb.len h1.lb.rd h1.lb.cap h1.lb.cap2 h2.lb.len h2.lb.rd h2.lb.cap h2.lb.cap2:Calls Tryz.prog 45 #[.agg #[.string a0,.int .i64 a1,.int .i64 a2,.int .i64 a3,.slice a4 a5 a6],.agg #[.string a0,.int .i64 a1,.int .i64 a2,.int .i64 a3,.slice y4 y5 y6]] W fun e w'=>e = .returned (.bool true)/\Below W.heap.size W w')
   have KS:=Lib.hid ks;clear ks
   go_wp2_with fail
   obtain ⟨W5,hW5⟩:∃ W,W=((wr.alloc (.cells #[.string ⟨#[]⟩,.int .i64 0,.int .i64 0,.int .i64 0,.slice none 0 0,.bool false,.int .i64 0] 60)).alloc (.cells #[.string ⟨#[]⟩,.int .i64 0,.int .i64 0,.int .i64 0,.slice none 0 0,.bool false,.int .i64 0] 60)).drew:=⟨_,rfl⟩
   have HZ0:Hid (Bk W5 wr.heap.size 60 #[.string ⟨#[]⟩,.int .i64 0,.int .i64 0,.int .i64 0,.slice none 0 0,.bool false,.int .i64 0]):=by rw [hW5];exact ((Bk.fresh wr _ _).later ((Below.refl _ _).alloc (Nat.le_refl _) _)).drewB
   have HZ1:Hid (Bk W5 (wr.heap.size+1) 60 #[.string ⟨#[]⟩,.int .i64 0,.int .i64 0,.int .i64 0,.slice none 0 0,.bool false,.int .i64 0]):=by rw [hW5];exact (Bk.freshAt _ _ _ (by simp)).drewB
   have HB5:Hid (Below wr.heap.size wr W5):=by rw [hW5];exact Below.drew (((Below.refl _ _).alloc (Nat.le_refl _) _).alloc (by simp) _)
   have HW5:=Lib.hid hW5;clear hW5
   refine wp_region_held_drew (S:=fun W=>Below wr.heap.size wr W) (by kernel_rfl) (Below.drew (Below.refl _ _)) (fun hS0=>?_)
   refine wU (i:=0) (v:=?_) rfl ?_ hS0 ?_
   rotate_left
   ·intro W _;go_simp;try with_reducible rfl
   try simp only [Act.put,tD,tB,tA,tE,tF]
   refine wU (i:=1) (v:=?_) rfl ?_ hS0 ?_
   rotate_left
   ·intro W hSW;have hx:=(hSW.cell (p:=⟨w.heap.size,2,none⟩) (by show w.heap.size<wr.heap.size;omega)).trans CA.out;go_simp;try with_reducible rfl
   try simp only [Act.put,tZ]
   refine wU (i:=2) (v:=?_) rfl ?_ hS0 ?_
   rotate_left
   ·intro W _;go_simp;try with_reducible rfl
   try simp only [Act.put,tZ]
   refine wU (i:=3) (v:=?_) rfl ?_ hS0 ?_
   rotate_left
   ·intro W _;go_simp;try with_reducible rfl
   try simp only [Act.put,tZ]
   refine wT (i:=4) (v:=.agg #[.string a0,.int .i64 a1,.int .i64 a2,.int .i64 a3,.slice a4 a5 a6,.bool a7,.int .i64 a8]) rfl (yields_rg (by rfl) 60 _ rfl g (o+k * 7) rfl #[.string a0,.int .i64 a1,.int .i64 a2,.int .i64 a3,.slice a4 a5 a6,.bool a7,.int .i64 a8] _ (fun W hW=>range_keep HM1.out.rg hW) Tryz.underlying60 rfl (by kernel_rfl)) hS0 ?_
   try simp only [Act.put,tZ]
   refine wU (i:=5) (v:=?_) rfl ?_ hS0 ?_
   rotate_left
   ·intro W _;go_simp;try with_reducible rfl
   try simp only [Act.put,tZ]
   refine wU (i:=6) (v:=?_) rfl ?_ hS0 ?_
   rotate_left
   ·intro W hSW;have hx:=(hSW.cell (p:=⟨w.heap.size+1,2,none⟩) lt1).trans CB.out;go_simp;try with_reducible rfl
   try simp only [Act.put,tZ]
   refine wU (i:=7) (v:=?_) rfl ?_ hS0 ?_
   rotate_left
   ·intro W _;go_simp;try with_reducible rfl
   try simp only [Act.put,tZ]
   refine wU (i:=8) (v:=?_) rfl ?_ hS0 ?_
   rotate_left
   ·intro W _;go_simp;try with_reducible rfl
   try simp only [Act.put,tZ]
   refine wT (i:=9) (v:=.agg #[.string a0,.int .i64 a1,.int .i64 a2,.int .i64 a3,.slice y4 y5 y6,.bool a7,.int .i64 a8]) rfl (yields_rg (by rfl) 60 _ rfl g2 (o2+k * 7) rfl #[.string a0,.int .i64 a1,.int .i64 a2,.int .i64 a3,.slice y4 y5 y6,.bool a7,.int .i64 a8] _ (fun W hW=>range_keep HM2.out.rg hW) Tryz.underlying60 rfl (by kernel_rfl)) hS0 ?_
   try simp only [Act.put,tZ]
   refine wpAnyH_ready (rs:=[10,11]) (by kernel_rfl) (by simp) ?_
   refine (AllReadyH.cons rfl (fun K hK=>?_) (AllReadyH.cons rfl (fun K hK=>?_) AllReadyH.nil))
   ·go_simp
    refine hK.out _ _ (Below.drew ((Below.refl _ _).alloc (Nat.le_refl _) _)) (fun hS1=>?_)
    clear hK K
    try simp only [Act.put,tZ]
    refine wpAnyH_ready (rs:=[11]) (by kernel_rfl) (by simp) ?_
    refine AllReadyH.cons rfl (fun K hK=>?_) AllReadyH.nil
    go_simp
    rw [<- HW5.out]
    refine hK.out _ _ (HB5.out) (fun hS2=>?_)
    clear hK K
    try simp only [Act.put,tZ]
    refine wpAnyH_ready (rs:=[12]) (by kernel_rfl) (by simp) ?_
    refine AllReadyH.cons rfl (fun K hK=>?_) AllReadyH.nil
    rw [if_pos (by rfl)]
    refine store_bk_op 60 (.tmp 6) (.tmp 61) rfl wr.heap.size 0 #[.string a0,.int .i64 a1,.int .i64 a2,.int .i64 a3,.slice a4 a5 a6,.bool a7,.int .i64 a8] rfl rfl 60 #[.string ⟨#[]⟩,.int .i64 0,.int .i64 0,.int .i64 0,.slice none 0 0,.bool false,.int .i64 0] #[.string a0,.int .i64 a1,.int .i64 a2,.int .i64 a3,.slice a4 a5 a6,.bool a7,.int .i64 a8] HZ0.out (by kernel_rfl) (by simp) (by kernel_rfl) rfl ?_
    intro w6 hB6 hg6 hs6
    have HA6:=Lib.hid hB6;have HZ6:=Lib.hid (HZ1.out.stays hg6 (by simp))
    have hb6:Below wr.heap.size wr w6:=HB5.out.grown hg6 HB5.out.size (fun q e=>by injection e with e;omega)
    clear hB6 hg6 hs6
    refine hK.out _ _ (hb6) (fun hS3=>?_)
    clear hK K
    try simp only [Act.put,tZ]
    refine wpAnyH_ready (rs:=[13]) (by kernel_rfl) (by simp) ?_
    refine AllReadyH.cons rfl (fun K hK=>?_) AllReadyH.nil
    rw [if_pos (by rfl)]
    refine store_bk_op 60 (.tmp 7) (.tmp 66) rfl (wr.heap.size+1) 0 #[.string a0,.int .i64 a1,.int .i64 a2,.int .i64 a3,.slice y4 y5 y6,.bool a7,.int .i64 a8] rfl rfl 60 #[.string ⟨#[]⟩,.int .i64 0,.int .i64 0,.int .i64 0,.slice none 0 0,.bool false,.int .i64 0] #[.string a0,.int .i64 a1,.int .i64 a2,.int .i64 a3,.slice y4 y5 y6,.bool a7,.int .i64 a8] HZ6.out (by kernel_rfl) (by simp) (by kernel_rfl) rfl ?_
    intro w7 hB7 hg7 hs7
    have HY7:=Lib.hid hB7;have HX7:=Lib.hid (HA6.out.stays hg7 (by simp))
    have hb7:Below wr.heap.size wr w7:=hb6.grown hg7 hb6.size (fun q e=>by injection e with e;omega)
    clear hB7 hg7 hs7 HA6 HZ6
    refine hK.out _ _ (hb7) (fun hS4=>?_)
    clear hK K
    try simp only [Act.put,tZ]
    refine wpAnyH_done (by kernel_rfl) ?_ _
    clear hS0 HZ0 HZ1 HB5 HW5
    have c1:w7.cell? ⟨wr.heap.size,5,none⟩=some (.bool a7):=HX7.out.cellAt 5
    have c2:w7.cell? ⟨(wr.heap.size+1),5,none⟩=some (.bool a7):=HY7.out.cellAt 5
    have c3:w7.cell? ⟨wr.heap.size,6,none⟩=some (.int .i64 a8):=HX7.out.cellAt 6
    have c4:w7.cell? ⟨(wr.heap.size+1),6,none⟩=some (.int .i64 a8):=HY7.out.cellAt 6
    have lt7:wr.heap.size+1<w7.heap.size:=by have h1:=HX7.out.here;have h2:=HY7.out.here;omega
    go_wp2_with (first | (with_reducible refine load_bk rfl 43 _ rfl wr.heap.size 0 rfl 60 #[.string a0,.int .i64 a1,.int .i64 a2,.int .i64 a3,.slice a4 a5 a6,.bool a7,.int .i64 a8] #[.string a0,.int .i64 a1,.int .i64 a2,.int .i64 a3,.slice a4 a5 a6] _ HX7.out (Part.of rfl) Tryz.underlying43 rfl (by kernel_rfl) ?_) | (with_reducible refine load_bk rfl 43 _ rfl (wr.heap.size+1) 0 rfl 60 #[.string a0,.int .i64 a1,.int .i64 a2,.int .i64 a3,.slice y4 y5 y6,.bool a7,.int .i64 a8] #[.string a0,.int .i64 a1,.int .i64 a2,.int .i64 a3,.slice y4 y5 y6] _ HY7.out (Part.of rfl) Tryz.underlying43 rfl (by kernel_rfl) ?_))
    refine (KS.out w7 (HO1.out.later hb7) (HO2.out.later hb7)).mono ?_;rintro e w8 ⟨rfl,hb8⟩
    have hc1:=(hb8.cell (p:=⟨wr.heap.size,5,none⟩) (by first | exact HX7.out.here | exact HY7.out.here)).trans c1
    have hc2:=(hb8.cell (p:=⟨(wr.heap.size+1),5,none⟩) (by first | exact HX7.out.here | exact HY7.out.here)).trans c2
    have hc3:=(hb8.cell (p:=⟨wr.heap.size,6,none⟩) (by first | exact HX7.out.here | exact HY7.out.here)).trans c3
    have hc4:=(hb8.cell (p:=⟨(wr.heap.size+1),6,none⟩) (by first | exact HX7.out.here | exact HY7.out.here)).trans c4
    clear c1 c2 c3 c4
    go_wp2_with fail
    have hb9:Below wr.heap.size wr w8:=hb7.trans (hb8.mono hb7.size)
    go_round
    case rel=>exact ⟨k+1,by omega,by go_num,HA.out.later hb9,HB.out.later hb9,hb.trans (hb9.mono hb.size)⟩
    case measure=>simp [intOf];omega
   ·go_simp
    refine hK.out _ _ (Below.drew ((Below.refl _ _).alloc (Nat.le_refl _) _)) (fun hS1=>?_)
    clear hK K
    try simp only [Act.put,tZ]
    refine wpAnyH_ready (rs:=[10]) (by kernel_rfl) (by simp) ?_
    refine AllReadyH.cons rfl (fun K hK=>?_) AllReadyH.nil
    go_simp
    rw [<- HW5.out]
    refine hK.out _ _ (HB5.out) (fun hS2=>?_)
    clear hK K
    try simp only [Act.put,tZ]
    refine wpAnyH_ready (rs:=[12]) (by kernel_rfl) (by simp) ?_
    refine AllReadyH.cons rfl (fun K hK=>?_) AllReadyH.nil
    rw [if_pos (by rfl)]
    refine store_bk_op 60 (.tmp 6) (.tmp 61) rfl (wr.heap.size+1) 0 #[.string a0,.int .i64 a1,.int .i64 a2,.int .i64 a3,.slice a4 a5 a6,.bool a7,.int .i64 a8] rfl rfl 60 #[.string ⟨#[]⟩,.int .i64 0,.int .i64 0,.int .i64 0,.slice none 0 0,.bool false,.int .i64 0] #[.string a0,.int .i64 a1,.int .i64 a2,.int .i64 a3,.slice a4 a5 a6,.bool a7,.int .i64 a8] HZ1.out (by kernel_rfl) (by simp) (by kernel_rfl) rfl ?_
    intro w6 hB6 hg6 hs6
    have HA6:=Lib.hid hB6;have HZ6:=Lib.hid (HZ0.out.stays hg6 (by simp))
    have hb6:Below wr.heap.size wr w6:=HB5.out.grown hg6 HB5.out.size (fun q e=>by injection e with e;omega)
    clear hB6 hg6 hs6
    refine hK.out _ _ (hb6) (fun hS3=>?_)
    clear hK K
    try simp only [Act.put,tZ]
    refine wpAnyH_ready (rs:=[13]) (by kernel_rfl) (by simp) ?_
    refine AllReadyH.cons rfl (fun K hK=>?_) AllReadyH.nil
    rw [if_pos (by rfl)]
    refine store_bk_op 60 (.tmp 7) (.tmp 66) rfl wr.heap.size 0 #[.string a0,.int .i64 a1,.int .i64 a2,.int .i64 a3,.slice y4 y5 y6,.bool a7,.int .i64 a8] rfl rfl 60 #[.string ⟨#[]⟩,.int .i64 0,.int .i64 0,.int .i64 0,.slice none 0 0,.bool false,.int .i64 0] #[.string a0,.int .i64 a1,.int .i64 a2,.int .i64 a3,.slice y4 y5 y6,.bool a7,.int .i64 a8] HZ6.out (by kernel_rfl) (by simp) (by kernel_rfl) rfl ?_
    intro w7 hB7 hg7 hs7
    have HY7:=Lib.hid hB7;have HX7:=Lib.hid (HA6.out.stays hg7 (by simp))
    have hb7:Below wr.heap.size wr w7:=hb6.grown hg7 hb6.size (fun q e=>by injection e with e;omega)
    clear hB7 hg7 hs7 HA6 HZ6
    refine hK.out _ _ (hb7) (fun hS4=>?_)
    clear hK K
    try simp only [Act.put,tZ]
    refine wpAnyH_done (by kernel_rfl) ?_ _
    clear hS0 HZ0 HZ1 HB5 HW5
    have c1:w7.cell? ⟨(wr.heap.size+1),5,none⟩=some (.bool a7):=HX7.out.cellAt 5
    have c2:w7.cell? ⟨wr.heap.size,5,none⟩=some (.bool a7):=HY7.out.cellAt 5
    have c3:w7.cell? ⟨(wr.heap.size+1),6,none⟩=some (.int .i64 a8):=HX7.out.cellAt 6
    have c4:w7.cell? ⟨wr.heap.size,6,none⟩=some (.int .i64 a8):=HY7.out.cellAt 6
    have lt7:wr.heap.size+1<w7.heap.size:=by have h1:=HX7.out.here;have h2:=HY7.out.here;omega
    go_wp2_with (first | (with_reducible refine load_bk rfl 43 _ rfl (wr.heap.size+1) 0 rfl 60 #[.string a0,.int .i64 a1,.int .i64 a2,.int .i64 a3,.slice a4 a5 a6,.bool a7,.int .i64 a8] #[.string a0,.int .i64 a1,.int .i64 a2,.int .i64 a3,.slice a4 a5 a6] _ HX7.out (Part.of rfl) Tryz.underlying43 rfl (by kernel_rfl) ?_) | (with_reducible refine load_bk rfl 43 _ rfl wr.heap.size 0 rfl 60 #[.string a0,.int .i64 a1,.int .i64 a2,.int .i64 a3,.slice y4 y5 y6,.bool a7,.int .i64 a8] #[.string a0,.int .i64 a1,.int .i64 a2,.int .i64 a3,.slice y4 y5 y6] _ HY7.out (Part.of rfl) Tryz.underlying43 rfl (by kernel_rfl) ?_))
    refine (KS.out w7 (HO1.out.later hb7) (HO2.out.later hb7)).mono ?_;rintro e w8 ⟨rfl,hb8⟩
    have hc1:=(hb8.cell (p:=⟨(wr.heap.size+1),5,none⟩) (by first | exact HX7.out.here | exact HY7.out.here)).trans c1
    have hc2:=(hb8.cell (p:=⟨wr.heap.size,5,none⟩) (by first | exact HX7.out.here | exact HY7.out.here)).trans c2
    have hc3:=(hb8.cell (p:=⟨(wr.heap.size+1),6,none⟩) (by first | exact HX7.out.here | exact HY7.out.here)).trans c3
    have hc4:=(hb8.cell (p:=⟨wr.heap.size,6,none⟩) (by first | exact HX7.out.here | exact HY7.out.here)).trans c4
    clear c1 c2 c3 c4
    go_wp2_with fail
    have hb9:Below wr.heap.size wr w8:=hb7.trans (hb8.mono hb7.size)
    go_round
    case rel=>exact ⟨k+1,by omega,by go_num,HA.out.later hb9,HB.out.later hb9,hb.trans (hb9.mono hb.size)⟩
    case measure=>simp [intOf];omega
  ·have hk':N=k:=by omega
   subst hk'
   clear hk hlt
   have cs:wr.cell? ⟨w.heap.size,3,none⟩=some (.slice B K0 cB):=HA.out.cellAt 3
   go_wp2_with fail
   clear cs
   go_loopw [91] (fun i wr=>∃ k:Nat,k<=K0/\i = .int .i64 k/\Hid (Bk wr w.heap.size 31 #[.int .i64 ck,.int .i64 nx,.slice A N cA,.slice B K0 cB,.slice C n cC])/\Hid (Bk wr (w.heap.size+1) 31 #[.int .i64 ck,.int .i64 nx,.slice A2 N cA2,.slice B2 K0 cB2,.slice C2 n cC2])/\Below w.heap.size w wr) (fun i wr=>K0 - (intOf i).toNat)
   case atStart=>exact ⟨0,Nat.zero_le _,rfl,HA,HB,hb⟩
   case round=>
    clear HA HB hb
    obtain ⟨k,hk,rfl,HA,HB,hb⟩:=hrel
    have lt1:w.heap.size+1<wr.heap.size:=HB.out.here
    by_cases hlt:k<K0
    ·have hl1:k<S.Q.length:=by have:=HKl.out;omega
     have hl2:k<T.Q.length:=by have:=HKt.out;omega
     obtain ⟨g,o,hAe,hg,hm⟩:=(hS.out.Q.later hb).at (i:=k) hl1
     obtain ⟨g2,o2,hAe2,hg2,hm2⟩:=(hT.out.Q.later hb).at (i:=k) hl2
     subst hAe hAe2
     have hxy:S.Q[k]=T.Q[k]:=by have:=HQ.out;simp only [this]
     rw [<- hxy] at hm2
     obtain ⟨x,hx⟩:∃ x,x=S.Q[k]:=⟨_,rfl⟩
     rw [<- hx] at hm hm2
     obtain ⟨q0,q1,q2,q3⟩:=x
     have HM1:=Lib.hid hm;have HM2:=Lib.hid hm2
     clear hx hxy hm hm2 hl1 hl2
     have ca:wr.cell? ⟨w.heap.size,3,none⟩=some (.slice (some ⟨g,o,none⟩) K0 cB):=HA.out.cellAt 3
     have cb:wr.cell? ⟨w.heap.size+1,3,none⟩=some (.slice (some ⟨g2,o2,none⟩) K0 cB2):=HB.out.cellAt 3
     have CA:=Lib.hid ca;have CB:=Lib.hid cb;clear ca cb
     have hne:=neq_queue_any q0 q0 q1 q2 q3 q1 q2 q3
     have hse:(sE q0 q0 && eq3 q1 q2 q3 q1 q2 q3)=true:=by simp [sE_refl,eq3]
     rw [hse] at hne
     have HNE:=Lib.hid hne;have hgq:=run_guardQ15;have HGQ:=Lib.hid hgq;clear hne hse hgq
     go_wp2_with fail
     refine wp_region_held_drew (S:=fun W=>Below wr.heap.size wr W) (by kernel_rfl) (Below.drew (Below.refl _ _)) (fun hS0=>?_)
     refine wU (i:=0) (v:=?_) rfl ?_ hS0 ?_
     rotate_left
     ·intro W _;go_simp;try with_reducible rfl
     try simp only [Act.put,tD,tB,tA,tE,tF]
     refine wU (i:=1) (v:=?_) rfl ?_ hS0 ?_
     rotate_left
     ·intro W hSW;have hx:=(hSW.cell (p:=⟨w.heap.size,3,none⟩) (by show w.heap.size<wr.heap.size;omega)).trans CA.out;go_simp;try with_reducible rfl
     try simp only [Act.put,tZ]
     refine wU (i:=2) (v:=?_) rfl ?_ hS0 ?_
     rotate_left
     ·intro W _;go_simp;try with_reducible rfl
     try simp only [Act.put,tZ]
     refine wU (i:=3) (v:=?_) rfl ?_ hS0 ?_
     rotate_left
     ·intro W _;go_simp;try with_reducible rfl
     try simp only [Act.put,tZ]
     refine wT (i:=4) (v:=.agg #[.string q0,.int .i64 q1,.int .i64 q2,.int .i64 q3]) rfl (yields_rg (by rfl) 45 _ rfl g (o+k * 4) rfl #[.string q0,.int .i64 q1,.int .i64 q2,.int .i64 q3] _ (fun W hW=>range_keep HM1.out.rg hW) Tryz.underlying45 rfl (by kernel_rfl)) hS0 ?_
     try simp only [Act.put,tZ]
     refine wU (i:=5) (v:=?_) rfl ?_ hS0 ?_
     rotate_left
     ·intro W _;go_simp;try with_reducible rfl
     try simp only [Act.put,tZ]
     refine wU (i:=6) (v:=?_) rfl ?_ hS0 ?_
     rotate_left
     ·intro W hSW;have hx:=(hSW.cell (p:=⟨w.heap.size+1,3,none⟩) lt1).trans CB.out;go_simp;try with_reducible rfl
     try simp only [Act.put,tZ]
     refine wU (i:=7) (v:=?_) rfl ?_ hS0 ?_
     rotate_left
     ·intro W _;go_simp;try with_reducible rfl
     try simp only [Act.put,tZ]
     refine wU (i:=8) (v:=?_) rfl ?_ hS0 ?_
     rotate_left
     ·intro W _;go_simp;try with_reducible rfl
     try simp only [Act.put,tZ]
     refine wT (i:=9) (v:=.agg #[.string q0,.int .i64 q1,.int .i64 q2,.int .i64 q3]) rfl (yields_rg (by rfl) 45 _ rfl g2 (o2+k * 4) rfl #[.string q0,.int .i64 q1,.int .i64 q2,.int .i64 q3] _ (fun W hW=>range_keep HM2.out.rg hW) Tryz.underlying45 rfl (by kernel_rfl)) hS0 ?_
     try simp only [Act.put,tZ]
     refine wpAnyH_ready (rs:=[10]) (by kernel_rfl) (by simp) ?_
     refine AllReadyH.cons rfl (fun K hK=>?_) AllReadyH.nil
     have hne:=HNE.out
     have hgq:=HGQ.out
     go_simp
     clear hne hgq
     refine hK.out _ _ (hS0) (fun hS1=>?_)
     clear hK K
     try simp only [Act.put,tZ]
     refine wpAnyH_done (by kernel_rfl) ?_ _
     have hb9:Below w.heap.size w wr.drew:=Below.drew hb
     go_wp2_with fail
     go_round
     case rel=>exact ⟨k+1,by omega,by go_num,HA.out.drewB,HB.out.drewB,hb9⟩
     case measure=>simp [intOf];omega
    ·have hk':K0=k:=by omega
     subst hk'
     clear hk hlt
     have cs:wr.cell? ⟨w.heap.size,4,none⟩=some (.slice C n cC):=HA.out.cellAt 4
     go_wp2_with fail
     clear cs
     go_loopw [109] (fun i wr=>∃ k:Nat,k<=n/\i = .int .i64 k/\Hid (Bk wr w.heap.size 31 #[.int .i64 ck,.int .i64 nx,.slice A N cA,.slice B K0 cB,.slice C n cC])/\Hid (Bk wr (w.heap.size+1) 31 #[.int .i64 ck,.int .i64 nx,.slice A2 N cA2,.slice B2 K0 cB2,.slice C2 n cC2])/\Below w.heap.size w wr) (fun i wr=>n - (intOf i).toNat)
     case atStart=>exact ⟨0,Nat.zero_le _,rfl,HA,HB,hb⟩
     case round=>
      clear HA HB hb
      obtain ⟨k,hk,rfl,HA,HB,hb⟩:=hrel
      have lt1:w.heap.size+1<wr.heap.size:=HB.out.here
      by_cases hlt:k<n
      ·have hl1:k<S.J.length:=by have:=Hnl.out;omega
       have hl2:k<T.J.length:=by have:=Hnt.out;omega
       obtain ⟨g,o,hAe,hg,hm⟩:=(hS.out.J.later hb).at (i:=k) (by simpa using hl1)
       obtain ⟨g2,o2,hAe2,hg2,hm2⟩:=(hT.out.J.later hb).at (i:=k) (by simpa using hl2)
       subst hAe hAe2
       rw [jbs_at hl1] at hm
       rw [jbs_at hl2] at hm2
       have ho1:=(hS.out.oJ.at hl1).later hb
       have ho2:=(hT.out.oJ.at hl2).later hb
       have hxy:=alike_at HJ.out hl1 hl2
       obtain ⟨x,hx⟩:∃ x,x=S.J[k]:=⟨_,rfl⟩
       obtain ⟨y,hy⟩:∃ y,y=T.J[k]:=⟨_,rfl⟩
       rw [<- hx] at hm ho1 hxy
       rw [<- hy] at hm2 ho2 hxy
       obtain ⟨⟨a0,a1,a2,a3,a4,a5,a6,a7,a8,a9,b0,b1,b2,b3,b4⟩,xl⟩:=x
       obtain ⟨⟨y0,y1,y2,y3,y4,y5,y6,y7,y8,y9,z0,z1,z2,z3,z4⟩,yl⟩:=y
       clear hx hy
       have q0:a0=y0:=congrArg (fun z:Jl=>z.1.nm) hxy
       have q1:a1=y1:=congrArg (fun z:Jl=>z.1.qu) hxy
       have q2:a2=y2:=congrArg (fun z:Jl=>z.1.pr) hxy
       have q3:a3=y3:=congrArg (fun z:Jl=>z.1.a) hxy
       have q4:a4=y4:=congrArg (fun z:Jl=>z.1.b) hxy
       have q5:a5=y5:=congrArg (fun z:Jl=>z.1.c) hxy
       have q6:a9=y9:=congrArg (fun z:Jl=>z.1.ap) hxy
       have q7:b0=z0:=congrArg (fun z:Jl=>z.1.ga) hxy
       have q8:b1=z1:=congrArg (fun z:Jl=>z.1.sz) hxy
       have q9:b2=z2:=congrArg (fun z:Jl=>z.1.sq) hxy
       have q10:b3=z3:=congrArg (fun z:Jl=>z.1.nd) hxy
       have q11:b4=z4:=congrArg (fun z:Jl=>z.1.bo) hxy
       have qq:xl=yl:=congrArg (fun z:Jl=>z.2) hxy
       subst q0 q1 q2 q3 q4 q5 q6 q7 q8 q9 q10 q11 qq
       clear hxy
       have HM1:=Lib.hid hm;have HM2:=Lib.hid hm2;have HO1:=Lib.hid ho1;have HO2:=Lib.hid ho2
       clear hm hm2 ho1 ho2 hl1 hl2
       have ca:wr.cell? ⟨w.heap.size,4,none⟩=some (.slice (some ⟨g,o,none⟩) n cC):=HA.out.cellAt 4
       have cb:wr.cell? ⟨w.heap.size+1,4,none⟩=some (.slice (some ⟨g2,o2,none⟩) n cC2):=HB.out.cellAt 4
       have CA:=Lib.hid ca;have CB:=Lib.hid cb;clear ca cb
       have ks:=fun (W:World)(h1:KtOk W ⟨a0,a1,a2,a3,a4,a5,a6,a7,a8,a9,b0,b1⟩ xl)(h2:KtOk W ⟨a0,a1,a2,a3,a4,a5,y6,y7,y8,a9,b0,b1⟩ xl)=>(sameTaskB_refl a0 a1 a2 a3 a4 a5 xl a9 b0 b1 ▸ sameTask_any a0 a1 a2 a3 a4 a5 a6 a7 a8 xl a9 b0 b1 a0 a1 a2 a3 a4 a5 y6 y7 y8 xl a9 b0 b1 W h1.lb.len h1.lb.rd h1.lb.cap h1.lb.cap2 h2.lb.len h2.lb.rd h2.lb.cap h2.lb.cap2:Calls Tryz.prog 46 #[.agg #[.string a0,.string a1,.int .i64 a2,.int .i64 a3,.int .i64 a4,.int .i64 a5,.slice a6 a7 a8,.string a9,.string b0,.int .i64 b1],.agg #[.string a0,.string a1,.int .i64 a2,.int .i64 a3,.int .i64 a4,.int .i64 a5,.slice y6 y7 y8,.string a9,.string b0,.int .i64 b1]] W fun e w'=>e = .returned (.bool true)/\Below W.heap.size W w')
       have KS:=Lib.hid ks;clear ks
       go_wp2_with fail
       obtain ⟨W5,hW5⟩:∃ W,W=((wr.alloc (.cells #[.string ⟨#[]⟩,.string ⟨#[]⟩,.int .i64 0,.int .i64 0,.int .i64 0,.int .i64 0,.slice none 0 0,.string ⟨#[]⟩,.string ⟨#[]⟩,.int .i64 0,.int .i64 0,.string ⟨#[]⟩,.int .i64 0] 66)).alloc (.cells #[.string ⟨#[]⟩,.string ⟨#[]⟩,.int .i64 0,.int .i64 0,.int .i64 0,.int .i64 0,.slice none 0 0,.string ⟨#[]⟩,.string ⟨#[]⟩,.int .i64 0,.int .i64 0,.string ⟨#[]⟩,.int .i64 0] 66)).drew:=⟨_,rfl⟩
       have HZ0:Hid (Bk W5 wr.heap.size 66 #[.string ⟨#[]⟩,.string ⟨#[]⟩,.int .i64 0,.int .i64 0,.int .i64 0,.int .i64 0,.slice none 0 0,.string ⟨#[]⟩,.string ⟨#[]⟩,.int .i64 0,.int .i64 0,.string ⟨#[]⟩,.int .i64 0]):=by rw [hW5];exact ((Bk.fresh wr _ _).later ((Below.refl _ _).alloc (Nat.le_refl _) _)).drewB
       have HZ1:Hid (Bk W5 (wr.heap.size+1) 66 #[.string ⟨#[]⟩,.string ⟨#[]⟩,.int .i64 0,.int .i64 0,.int .i64 0,.int .i64 0,.slice none 0 0,.string ⟨#[]⟩,.string ⟨#[]⟩,.int .i64 0,.int .i64 0,.string ⟨#[]⟩,.int .i64 0]):=by rw [hW5];exact (Bk.freshAt _ _ _ (by simp)).drewB
       have HB5:Hid (Below wr.heap.size wr W5):=by rw [hW5];exact Below.drew (((Below.refl _ _).alloc (Nat.le_refl _) _).alloc (by simp) _)
       have HW5:=Lib.hid hW5;clear hW5
       refine wp_region_held_drew (S:=fun W=>Below wr.heap.size wr W) (by kernel_rfl) (Below.drew (Below.refl _ _)) (fun hS0=>?_)
       refine wU (i:=0) (v:=?_) rfl ?_ hS0 ?_
       rotate_left
       ·intro W _;go_simp;try with_reducible rfl
       try simp only [Act.put,tD,tB,tA,tE,tF]
       refine wU (i:=1) (v:=?_) rfl ?_ hS0 ?_
       rotate_left
       ·intro W hSW;have hx:=(hSW.cell (p:=⟨w.heap.size,4,none⟩) (by show w.heap.size<wr.heap.size;omega)).trans CA.out;go_simp;try with_reducible rfl
       try simp only [Act.put,tZ]
       refine wU (i:=2) (v:=?_) rfl ?_ hS0 ?_
       rotate_left
       ·intro W _;go_simp;try with_reducible rfl
       try simp only [Act.put,tZ]
       refine wU (i:=3) (v:=?_) rfl ?_ hS0 ?_
       rotate_left
       ·intro W _;go_simp;try with_reducible rfl
       try simp only [Act.put,tZ]
       refine wT (i:=4) (v:=.agg #[.string a0,.string a1,.int .i64 a2,.int .i64 a3,.int .i64 a4,.int .i64 a5,.slice a6 a7 a8,.string a9,.string b0,.int .i64 b1,.int .i64 b2,.string b3,.int .i64 b4]) rfl (yields_rg (by rfl) 66 _ rfl g (o+k * 13) rfl #[.string a0,.string a1,.int .i64 a2,.int .i64 a3,.int .i64 a4,.int .i64 a5,.slice a6 a7 a8,.string a9,.string b0,.int .i64 b1,.int .i64 b2,.string b3,.int .i64 b4] _ (fun W hW=>range_keep HM1.out.rg hW) Tryz.underlying66 rfl (by kernel_rfl)) hS0 ?_
       try simp only [Act.put,tZ]
       refine wU (i:=5) (v:=?_) rfl ?_ hS0 ?_
       rotate_left
       ·intro W _;go_simp;try with_reducible rfl
       try simp only [Act.put,tZ]
       refine wU (i:=6) (v:=?_) rfl ?_ hS0 ?_
       rotate_left
       ·intro W hSW;have hx:=(hSW.cell (p:=⟨w.heap.size+1,4,none⟩) lt1).trans CB.out;go_simp;try with_reducible rfl
       try simp only [Act.put,tZ]
       refine wU (i:=7) (v:=?_) rfl ?_ hS0 ?_
       rotate_left
       ·intro W _;go_simp;try with_reducible rfl
       try simp only [Act.put,tZ]
       refine wU (i:=8) (v:=?_) rfl ?_ hS0 ?_
       rotate_left
       ·intro W _;go_simp;try with_reducible rfl
       try simp only [Act.put,tZ]
       refine wT (i:=9) (v:=.agg #[.string a0,.string a1,.int .i64 a2,.int .i64 a3,.int .i64 a4,.int .i64 a5,.slice y6 y7 y8,.string a9,.string b0,.int .i64 b1,.int .i64 b2,.string b3,.int .i64 b4]) rfl (yields_rg (by rfl) 66 _ rfl g2 (o2+k * 13) rfl #[.string a0,.string a1,.int .i64 a2,.int .i64 a3,.int .i64 a4,.int .i64 a5,.slice y6 y7 y8,.string a9,.string b0,.int .i64 b1,.int .i64 b2,.string b3,.int .i64 b4] _ (fun W hW=>range_keep HM2.out.rg hW) Tryz.underlying66 rfl (by kernel_rfl)) hS0 ?_
       try simp only [Act.put,tZ]
       refine wpAnyH_ready (rs:=[10,11]) (by kernel_rfl) (by simp) ?_
       refine (AllReadyH.cons rfl (fun K hK=>?_) (AllReadyH.cons rfl (fun K hK=>?_) AllReadyH.nil))
       ·go_simp
        refine hK.out _ _ (Below.drew ((Below.refl _ _).alloc (Nat.le_refl _) _)) (fun hS1=>?_)
        clear hK K
        try simp only [Act.put,tZ]
        refine wpAnyH_ready (rs:=[11]) (by kernel_rfl) (by simp) ?_
        refine AllReadyH.cons rfl (fun K hK=>?_) AllReadyH.nil
        go_simp
        rw [<- HW5.out]
        refine hK.out _ _ (HB5.out) (fun hS2=>?_)
        clear hK K
        try simp only [Act.put,tZ]
        refine wpAnyH_ready (rs:=[12]) (by kernel_rfl) (by simp) ?_
        refine AllReadyH.cons rfl (fun K hK=>?_) AllReadyH.nil
        rw [if_pos (by rfl)]
        refine store_bk_op 66 (.tmp 10) (.tmp 116) rfl wr.heap.size 0 #[.string a0,.string a1,.int .i64 a2,.int .i64 a3,.int .i64 a4,.int .i64 a5,.slice a6 a7 a8,.string a9,.string b0,.int .i64 b1,.int .i64 b2,.string b3,.int .i64 b4] rfl rfl 66 #[.string ⟨#[]⟩,.string ⟨#[]⟩,.int .i64 0,.int .i64 0,.int .i64 0,.int .i64 0,.slice none 0 0,.string ⟨#[]⟩,.string ⟨#[]⟩,.int .i64 0,.int .i64 0,.string ⟨#[]⟩,.int .i64 0] #[.string a0,.string a1,.int .i64 a2,.int .i64 a3,.int .i64 a4,.int .i64 a5,.slice a6 a7 a8,.string a9,.string b0,.int .i64 b1,.int .i64 b2,.string b3,.int .i64 b4] HZ0.out (by kernel_rfl) (by simp) (by kernel_rfl) rfl ?_
        intro w6 hB6 hg6 hs6
        have HA6:=Lib.hid hB6;have HZ6:=Lib.hid (HZ1.out.stays hg6 (by simp))
        have hb6:Below wr.heap.size wr w6:=HB5.out.grown hg6 HB5.out.size (fun q e=>by injection e with e;omega)
        clear hB6 hg6 hs6
        refine hK.out _ _ (hb6) (fun hS3=>?_)
        clear hK K
        try simp only [Act.put,tZ]
        refine wpAnyH_ready (rs:=[13]) (by kernel_rfl) (by simp) ?_
        refine AllReadyH.cons rfl (fun K hK=>?_) AllReadyH.nil
        rw [if_pos (by rfl)]
        refine store_bk_op 66 (.tmp 11) (.tmp 121) rfl (wr.heap.size+1) 0 #[.string a0,.string a1,.int .i64 a2,.int .i64 a3,.int .i64 a4,.int .i64 a5,.slice y6 y7 y8,.string a9,.string b0,.int .i64 b1,.int .i64 b2,.string b3,.int .i64 b4] rfl rfl 66 #[.string ⟨#[]⟩,.string ⟨#[]⟩,.int .i64 0,.int .i64 0,.int .i64 0,.int .i64 0,.slice none 0 0,.string ⟨#[]⟩,.string ⟨#[]⟩,.int .i64 0,.int .i64 0,.string ⟨#[]⟩,.int .i64 0] #[.string a0,.string a1,.int .i64 a2,.int .i64 a3,.int .i64 a4,.int .i64 a5,.slice y6 y7 y8,.string a9,.string b0,.int .i64 b1,.int .i64 b2,.string b3,.int .i64 b4] HZ6.out (by kernel_rfl) (by simp) (by kernel_rfl) rfl ?_
        intro w7 hB7 hg7 hs7
        have HY7:=Lib.hid hB7;have HX7:=Lib.hid (HA6.out.stays hg7 (by simp))
        have hb7:Below wr.heap.size wr w7:=hb6.grown hg7 hb6.size (fun q e=>by injection e with e;omega)
        clear hB7 hg7 hs7 HA6 HZ6
        refine hK.out _ _ (hb7) (fun hS4=>?_)
        clear hK K
        try simp only [Act.put,tZ]
        refine wpAnyH_done (by kernel_rfl) ?_ _
        clear hS0 HZ0 HZ1 HB5 HW5
        have c1:w7.cell? ⟨wr.heap.size,10,none⟩=some (.int .i64 b2):=HX7.out.cellAt 10
        have c2:w7.cell? ⟨(wr.heap.size+1),10,none⟩=some (.int .i64 b2):=HY7.out.cellAt 10
        have c3:w7.cell? ⟨wr.heap.size,11,none⟩=some (.string b3):=HX7.out.cellAt 11
        have c4:w7.cell? ⟨(wr.heap.size+1),11,none⟩=some (.string b3):=HY7.out.cellAt 11
        have c5:w7.cell? ⟨wr.heap.size,12,none⟩=some (.int .i64 b4):=HX7.out.cellAt 12
        have c6:w7.cell? ⟨(wr.heap.size+1),12,none⟩=some (.int .i64 b4):=HY7.out.cellAt 12
        have lt7:wr.heap.size+1<w7.heap.size:=by have h1:=HX7.out.here;have h2:=HY7.out.here;omega
        go_wp2_with (first | (with_reducible refine load_bk rfl 47 _ rfl wr.heap.size 0 rfl 66 #[.string a0,.string a1,.int .i64 a2,.int .i64 a3,.int .i64 a4,.int .i64 a5,.slice a6 a7 a8,.string a9,.string b0,.int .i64 b1,.int .i64 b2,.string b3,.int .i64 b4] #[.string a0,.string a1,.int .i64 a2,.int .i64 a3,.int .i64 a4,.int .i64 a5,.slice a6 a7 a8,.string a9,.string b0,.int .i64 b1] _ HX7.out (Part.of rfl) Tryz.underlying47 rfl (by kernel_rfl) ?_) | (with_reducible refine load_bk rfl 47 _ rfl (wr.heap.size+1) 0 rfl 66 #[.string a0,.string a1,.int .i64 a2,.int .i64 a3,.int .i64 a4,.int .i64 a5,.slice y6 y7 y8,.string a9,.string b0,.int .i64 b1,.int .i64 b2,.string b3,.int .i64 b4] #[.string a0,.string a1,.int .i64 a2,.int .i64 a3,.int .i64 a4,.int .i64 a5,.slice y6 y7 y8,.string a9,.string b0,.int .i64 b1] _ HY7.out (Part.of rfl) Tryz.underlying47 rfl (by kernel_rfl) ?_))
        refine (KS.out w7 (HO1.out.later hb7) (HO2.out.later hb7)).mono ?_;rintro e w8 ⟨rfl,hb8⟩
        have hc1:=(hb8.cell (p:=⟨wr.heap.size,10,none⟩) (by first | exact HX7.out.here | exact HY7.out.here)).trans c1
        have hc2:=(hb8.cell (p:=⟨(wr.heap.size+1),10,none⟩) (by first | exact HX7.out.here | exact HY7.out.here)).trans c2
        have hc3:=(hb8.cell (p:=⟨wr.heap.size,11,none⟩) (by first | exact HX7.out.here | exact HY7.out.here)).trans c3
        have hc4:=(hb8.cell (p:=⟨(wr.heap.size+1),11,none⟩) (by first | exact HX7.out.here | exact HY7.out.here)).trans c4
        have hc5:=(hb8.cell (p:=⟨wr.heap.size,12,none⟩) (by first | exact HX7.out.here | exact HY7.out.here)).trans c5
        have hc6:=(hb8.cell (p:=⟨(wr.heap.size+1),12,none⟩) (by first | exact HX7.out.here | exact HY7.out.here)).trans c6
        clear c1 c2 c3 c4 c5 c6
        go_wp2_with fail
        have hb9:Below wr.heap.size wr w8:=hb7.trans (hb8.mono hb7.size)
        go_round
        case rel=>exact ⟨k+1,by omega,by go_num,HA.out.later hb9,HB.out.later hb9,hb.trans (hb9.mono hb.size)⟩
        case measure=>simp [intOf];omega
       ·go_simp
        refine hK.out _ _ (Below.drew ((Below.refl _ _).alloc (Nat.le_refl _) _)) (fun hS1=>?_)
        clear hK K
        try simp only [Act.put,tZ]
        refine wpAnyH_ready (rs:=[10]) (by kernel_rfl) (by simp) ?_
        refine AllReadyH.cons rfl (fun K hK=>?_) AllReadyH.nil
        go_simp
        rw [<- HW5.out]
        refine hK.out _ _ (HB5.out) (fun hS2=>?_)
        clear hK K
        try simp only [Act.put,tZ]
        refine wpAnyH_ready (rs:=[12]) (by kernel_rfl) (by simp) ?_
        refine AllReadyH.cons rfl (fun K hK=>?_) AllReadyH.nil
        rw [if_pos (by rfl)]
        refine store_bk_op 66 (.tmp 10) (.tmp 116) rfl (wr.heap.size+1) 0 #[.string a0,.string a1,.int .i64 a2,.int .i64 a3,.int .i64 a4,.int .i64 a5,.slice a6 a7 a8,.string a9,.string b0,.int .i64 b1,.int .i64 b2,.string b3,.int .i64 b4] rfl rfl 66 #[.string ⟨#[]⟩,.string ⟨#[]⟩,.int .i64 0,.int .i64 0,.int .i64 0,.int .i64 0,.slice none 0 0,.string ⟨#[]⟩,.string ⟨#[]⟩,.int .i64 0,.int .i64 0,.string ⟨#[]⟩,.int .i64 0] #[.string a0,.string a1,.int .i64 a2,.int .i64 a3,.int .i64 a4,.int .i64 a5,.slice a6 a7 a8,.string a9,.string b0,.int .i64 b1,.int .i64 b2,.string b3,.int .i64 b4] HZ1.out (by kernel_rfl) (by simp) (by kernel_rfl) rfl ?_
        intro w6 hB6 hg6 hs6
        have HA6:=Lib.hid hB6;have HZ6:=Lib.hid (HZ0.out.stays hg6 (by simp))
        have hb6:Below wr.heap.size wr w6:=HB5.out.grown hg6 HB5.out.size (fun q e=>by injection e with e;omega)
        clear hB6 hg6 hs6
        refine hK.out _ _ (hb6) (fun hS3=>?_)
        clear hK K
        try simp only [Act.put,tZ]
        refine wpAnyH_ready (rs:=[13]) (by kernel_rfl) (by simp) ?_
        refine AllReadyH.cons rfl (fun K hK=>?_) AllReadyH.nil
        rw [if_pos (by rfl)]
        refine store_bk_op 66 (.tmp 11) (.tmp 121) rfl wr.heap.size 0 #[.string a0,.string a1,.int .i64 a2,.int .i64 a3,.int .i64 a4,.int .i64 a5,.slice y6 y7 y8,.string a9,.string b0,.int .i64 b1,.int .i64 b2,.string b3,.int .i64 b4] rfl rfl 66 #[.string ⟨#[]⟩,.string ⟨#[]⟩,.int .i64 0,.int .i64 0,.int .i64 0,.int .i64 0,.slice none 0 0,.string ⟨#[]⟩,.string ⟨#[]⟩,.int .i64 0,.int .i64 0,.string ⟨#[]⟩,.int .i64 0] #[.string a0,.string a1,.int .i64 a2,.int .i64 a3,.int .i64 a4,.int .i64 a5,.slice y6 y7 y8,.string a9,.string b0,.int .i64 b1,.int .i64 b2,.string b3,.int .i64 b4] HZ6.out (by kernel_rfl) (by simp) (by kernel_rfl) rfl ?_
        intro w7 hB7 hg7 hs7
        have HY7:=Lib.hid hB7;have HX7:=Lib.hid (HA6.out.stays hg7 (by simp))
        have hb7:Below wr.heap.size wr w7:=hb6.grown hg7 hb6.size (fun q e=>by injection e with e;omega)
        clear hB7 hg7 hs7 HA6 HZ6
        refine hK.out _ _ (hb7) (fun hS4=>?_)
        clear hK K
        try simp only [Act.put,tZ]
        refine wpAnyH_done (by kernel_rfl) ?_ _
        clear hS0 HZ0 HZ1 HB5 HW5
        have c1:w7.cell? ⟨(wr.heap.size+1),10,none⟩=some (.int .i64 b2):=HX7.out.cellAt 10
        have c2:w7.cell? ⟨wr.heap.size,10,none⟩=some (.int .i64 b2):=HY7.out.cellAt 10
        have c3:w7.cell? ⟨(wr.heap.size+1),11,none⟩=some (.string b3):=HX7.out.cellAt 11
        have c4:w7.cell? ⟨wr.heap.size,11,none⟩=some (.string b3):=HY7.out.cellAt 11
        have c5:w7.cell? ⟨(wr.heap.size+1),12,none⟩=some (.int .i64 b4):=HX7.out.cellAt 12
        have c6:w7.cell? ⟨wr.heap.size,12,none⟩=some (.int .i64 b4):=HY7.out.cellAt 12
        have lt7:wr.heap.size+1<w7.heap.size:=by have h1:=HX7.out.here;have h2:=HY7.out.here;omega
        go_wp2_with (first | (with_reducible refine load_bk rfl 47 _ rfl (wr.heap.size+1) 0 rfl 66 #[.string a0,.string a1,.int .i64 a2,.int .i64 a3,.int .i64 a4,.int .i64 a5,.slice a6 a7 a8,.string a9,.string b0,.int .i64 b1,.int .i64 b2,.string b3,.int .i64 b4] #[.string a0,.string a1,.int .i64 a2,.int .i64 a3,.int .i64 a4,.int .i64 a5,.slice a6 a7 a8,.string a9,.string b0,.int .i64 b1] _ HX7.out (Part.of rfl) Tryz.underlying47 rfl (by kernel_rfl) ?_) | (with_reducible refine load_bk rfl 47 _ rfl wr.heap.size 0 rfl 66 #[.string a0,.string a1,.int .i64 a2,.int .i64 a3,.int .i64 a4,.int .i64 a5,.slice y6 y7 y8,.string a9,.string b0,.int .i64 b1,.int .i64 b2,.string b3,.int .i64 b4] #[.string a0,.string a1,.int .i64 a2,.int .i64 a3,.int .i64 a4,.int .i64 a5,.slice y6 y7 y8,.string a9,.string b0,.int .i64 b1] _ HY7.out (Part.of rfl) Tryz.underlying47 rfl (by kernel_rfl) ?_))
        refine (KS.out w7 (HO1.out.later hb7) (HO2.out.later hb7)).mono ?_;rintro e w8 ⟨rfl,hb8⟩
        have hc1:=(hb8.cell (p:=⟨(wr.heap.size+1),10,none⟩) (by first | exact HX7.out.here | exact HY7.out.here)).trans c1
        have hc2:=(hb8.cell (p:=⟨wr.heap.size,10,none⟩) (by first | exact HX7.out.here | exact HY7.out.here)).trans c2
        have hc3:=(hb8.cell (p:=⟨(wr.heap.size+1),11,none⟩) (by first | exact HX7.out.here | exact HY7.out.here)).trans c3
        have hc4:=(hb8.cell (p:=⟨wr.heap.size,11,none⟩) (by first | exact HX7.out.here | exact HY7.out.here)).trans c4
        have hc5:=(hb8.cell (p:=⟨(wr.heap.size+1),12,none⟩) (by first | exact HX7.out.here | exact HY7.out.here)).trans c5
        have hc6:=(hb8.cell (p:=⟨wr.heap.size,12,none⟩) (by first | exact HX7.out.here | exact HY7.out.here)).trans c6
        clear c1 c2 c3 c4 c5 c6
        go_wp2_with fail
        have hb9:Below wr.heap.size wr w8:=hb7.trans (hb8.mono hb7.size)
        go_round
        case rel=>exact ⟨k+1,by omega,by go_num,HA.out.later hb9,HB.out.later hb9,hb.trans (hb9.mono hb.size)⟩
        case measure=>simp [intOf];omega
      ·have hk':n=k:=by omega
       subst hk'
       clear hk hlt
       go_wp2_with fail
       go_ret
       exact ⟨rfl,hb⟩
end
section
open Go.RowKit
theorem OwnS.rdOf {w:World}{b:Nat}{S:Sg}{ck nx:Int}{A:Option Addr}{N cA:Nat}{B:Option Addr}{K cB:Nat}{C:Option Addr}{n cC:Nat}(h:OwnS w b (.slice A N cA) (.slice B K cB) (.slice C n cC) S)(h1:ck=S.ck)(h2:nx=S.nx):RdSt w ⟨ck,nx,A,N,cA,B,K,cB,C,n,cC⟩ S:=by
 obtain ⟨⟨ck',nx',A',N',cA',B',K',cB',C',n',cC'⟩,hv,hr⟩:=h.rd
 have e1:Value.slice A' N' cA' = .slice A N cA:=congrArg (fun a:Array Value=>a.getD 2 undef) hv
 have e2:Value.slice B' K' cB' = .slice B K cB:=congrArg (fun a:Array Value=>a.getD 3 undef) hv
 have e3:Value.slice C' n' cC' = .slice C n cC:=congrArg (fun a:Array Value=>a.getD 4 undef) hv
 injection e1 with x1 x2 x3
 injection e2 with x4 x5 x6
 injection e3 with x7 x8 x9
 subst x1 x2 x3 x4 x5 x6 x7 x8 x9
 have e4:ck' = S.ck:=hr.ck
 have e5:nx' = S.nx:=hr.nx
 rw [e4,<- h1,e5,<- h2] at hr
 exact hr


theorem small15_any (x:Oz)(w:World)(hx:OzOk w x):Calls Tryz.prog 29 #[.agg x.arr] w fun e w'=>RetIf e (x.m1<=20/\x.m3<=20)/\Below w.heap.size w w':=by
 obtain ⟨⟨k,nn,a1,b1,c1,l1,qn,a2,b2,c2,tn,tq,tp,a3,b3,c3,l3,ta,tg,ts,s⟩,A1,m1,p1,A3,m3,p3⟩:=x
 have h1:nn.size<=140737488351232:=hx.nn
 have h2:qn.size<=140737488351232:=hx.qn
 have h3:tn.size<=140737488351232:=hx.tn
 have h4:tq.size<=140737488351232:=hx.tq
 have h5:ta.size<=140737488351232:=hx.ta
 have h6:tg.size<=140737488351232:=hx.tg
 have h7:s.size<=140737488351232:=hx.s
 clear hx
 have hb0:Below w.heap.size w (w.alloc (.cells #[.int .i64 k,.string nn,.int .i64 a1,.int .i64 b1,.int .i64 c1,.slice A1 m1 p1,.string qn,.int .i64 a2,.int .i64 b2,.int .i64 c2,.string tn,.string tq,.int .i64 tp,.int .i64 a3,.int .i64 b3,.int .i64 c3,.slice A3 m3 p3,.string ta,.string tg,.int .i64 ts,.string s] 49)):=(Below.refl _ _).alloc (Nat.le_refl _) _
 by_cases e1:m1<=20
 ·by_cases e2:m3<=20
  ·have d1:decide ((m1:Int)<=20)=true:=by rw [decide_eq_true_eq];omega
   have d2:decide ((m3:Int)<=20)=true:=by rw [decide_eq_true_eq];omega
   have HP:Hid (m1<=20/\m3<=20):=⟨e1,e2⟩
   go_enter Tryz.func29,Tryz.ntmps29
   go_wp2
   go_ret
   exact ⟨⟨_,rfl,fun _=>HP.out⟩,hb0⟩
  ·have d1:decide ((m1:Int)<=20)=true:=by rw [decide_eq_true_eq];omega
   have d2:decide ((m3:Int)<=20)=false:=by rw [decide_eq_false_iff_not];omega
   go_enter Tryz.func29,Tryz.ntmps29
   go_wp2
   go_ret
   exact ⟨RetIf.no,hb0⟩
 ·have d1:decide ((m1:Int)<=20)=false:=by rw [decide_eq_false_iff_not];omega
  go_enter Tryz.func29,Tryz.ntmps29
  go_wp2
  go_ret
  exact ⟨RetIf.no,hb0⟩
end
section
open Go.ChangeShapes Go.WideShapes Go.RowKit Go.Deep
theorem cellsOp:Tryz.prog.cellsOf 49=21:=by kernel_rfl
theorem list21 {α:Type}(l:List α)(h:l.length=21):∃ a0 a1 a2 a3 a4 a5 a6 a7 a8 a9 b0 b1 b2 b3 b4 b5 b6 b7 b8 b9 z,l=[a0,a1,a2,a3,a4,a5,a6,a7,a8,a9,b0,b1,b2,b3,b4,b5,b6,b7,b8,b9,z]:=by
 match l,h with
 | [a0,a1,a2,a3,a4,a5,a6,a7,a8,a9,b0,b1,b2,b3,b4,b5,b6,b7,b8,b9,z],_=>exact ⟨a0,a1,a2,a3,a4,a5,a6,a7,a8,a9,b0,b1,b2,b3,b4,b5,b6,b7,b8,b9,z,rfl⟩
section
variable {H:Type}{enc:TypeId × Value->H}{W:World}{base:Nat}{sp:Nat->Bool}{held:Bool}

theorem open_node_f {fuel:Nat}{c0 c1 c2 c3 c4:Value}{y:DataW H × List MemPlace}(h:DataW.trod enc Tryz.prog W base sp held fuel 43 [c0,c1,c2,c3,c4]=some y) :
  ∃ nm a b c A n cp l da dl,c0 = .string nm/\c1 = .int .i64 a/\c2 = .int .i64 b/\c3 = .int .i64 c/\c4 = .slice A n cp/\y.1 = .agg [.lit (.string nm.data.toList),da,dl]/\LabsIn W dl A n cp l:=by
 obtain ⟨ys,n,_,hx,_,hyl,hg⟩:=DataW.trod_struct Tryz.underlying43 h
 obtain ⟨y0,y1,y2,rfl⟩:=list3' ys (by simpa using hyl)
 have h0:DataW.trod enc Tryz.prog W base sp held n 9 (List.take (Tryz.prog.cellsOf 9) [c0,c1,c2,c3,c4])=some y0:=hg 0 _ rfl
 have h1:DataW.trod enc Tryz.prog W base sp held n 40 (List.take (Tryz.prog.cellsOf 40) [c1,c2,c3,c4])=some y1:=hg 1 _ rfl
 have h2:DataW.trod enc Tryz.prog W base sp held n 41 (List.take (Tryz.prog.cellsOf 41) [c4])=some y2:=hg 2 _ rfl
 rw [cells9] at h0
 rw [cellsRes] at h1
 rw [cellsLabs] at h2
 obtain ⟨s,rfl,e0⟩:=open_field_string h0
 obtain ⟨a,b,c,rfl,rfl,rfl⟩:=open_field_res h1
 obtain ⟨A,m,cp,l,rfl,hl⟩:=open_field_labs h2
 exact ⟨s,a,b,c,A,m,cp,l,y1.1,y2.1,rfl,rfl,rfl,rfl,rfl,by have:=congrArg Prod.fst hx;simpa [e0] using this,hl⟩

theorem open_queue_f {fuel:Nat}{c0 c1 c2 c3:Value}{y:DataW H × List MemPlace}(h:DataW.trod enc Tryz.prog W base sp held fuel 45 [c0,c1,c2,c3]=some y) :
  ∃ nm a b c da,c0 = .string nm/\c1 = .int .i64 a/\c2 = .int .i64 b/\c3 = .int .i64 c/\y.1 = .agg [.lit (.string nm.data.toList),da]:=by
 obtain ⟨ys,n,_,hx,_,hyl,hg⟩:=DataW.trod_struct Tryz.underlying45 h
 obtain ⟨y0,y1,rfl⟩:=list2 ys (by simpa using hyl)
 have h0:DataW.trod enc Tryz.prog W base sp held n 9 (List.take (Tryz.prog.cellsOf 9) [c0,c1,c2,c3])=some y0:=hg 0 _ rfl
 have h1:DataW.trod enc Tryz.prog W base sp held n 40 (List.take (Tryz.prog.cellsOf 40) [c1,c2,c3])=some y1:=hg 1 _ rfl
 rw [cells9] at h0
 rw [cellsRes] at h1
 obtain ⟨s,rfl,e0⟩:=open_field_string h0
 obtain ⟨a,b,c,rfl,rfl,rfl⟩:=open_field_res h1
 exact ⟨s,a,b,c,y1.1,rfl,rfl,rfl,rfl,by have:=congrArg Prod.fst hx;simpa [e0] using this⟩

theorem open_task_f {fuel:Nat}{c0 c1 c2 c3 c4 c5 c6 c7 c8 c9:Value}{y:DataW H × List MemPlace}(h:DataW.trod enc Tryz.prog W base sp held fuel 47 [c0,c1,c2,c3,c4,c5,c6,c7,c8,c9]=some y) :
  ∃ nm qu pr a b c A n cp l ap ga sz d2 d3 d4 d7,c0 = .string nm/\c1 = .string qu/\c2 = .int .i64 pr/\c3 = .int .i64 a/\c4 = .int .i64 b/\c5 = .int .i64 c/\c6 = .slice A n cp/\c7 = .string ap/\c8 = .string ga/\c9 = .int .i64 sz /\
   y.1 = .agg [.lit (.string nm.data.toList),.lit (.string qu.data.toList),d2,d3,d4,.lit (.string ap.data.toList),.lit (.string ga.data.toList),d7]/\LabsIn W d4 A n cp l:=by
 obtain ⟨ys,n,_,hx,_,hyl,hg⟩:=DataW.trod_struct Tryz.underlying47 h
 obtain ⟨y0,y1,y2,y3,y4,y5,y6,y7,rfl⟩:=list8 ys (by simpa using hyl)
 have h0:DataW.trod enc Tryz.prog W base sp held n 9 (List.take (Tryz.prog.cellsOf 9) [c0,c1,c2,c3,c4,c5,c6,c7,c8,c9])=some y0:=hg 0 _ rfl
 have h1:DataW.trod enc Tryz.prog W base sp held n 9 (List.take (Tryz.prog.cellsOf 9) [c1,c2,c3,c4,c5,c6,c7,c8,c9])=some y1:=hg 1 _ rfl
 have h2:DataW.trod enc Tryz.prog W base sp held n 3 (List.take (Tryz.prog.cellsOf 3) [c2,c3,c4,c5,c6,c7,c8,c9])=some y2:=hg 2 _ rfl
 have h3:DataW.trod enc Tryz.prog W base sp held n 40 (List.take (Tryz.prog.cellsOf 40) [c3,c4,c5,c6,c7,c8,c9])=some y3:=hg 3 _ rfl
 have h4:DataW.trod enc Tryz.prog W base sp held n 41 (List.take (Tryz.prog.cellsOf 41) [c6,c7,c8,c9])=some y4:=hg 4 _ rfl
 have h5:DataW.trod enc Tryz.prog W base sp held n 9 (List.take (Tryz.prog.cellsOf 9) [c7,c8,c9])=some y5:=hg 5 _ rfl
 have h6:DataW.trod enc Tryz.prog W base sp held n 9 (List.take (Tryz.prog.cellsOf 9) [c8,c9])=some y6:=hg 6 _ rfl
 have h7:DataW.trod enc Tryz.prog W base sp held n 3 (List.take (Tryz.prog.cellsOf 3) [c9])=some y7:=hg 7 _ rfl
 rw [cells9] at h0 h1 h5 h6
 rw [cellsInt] at h2 h7
 rw [cellsRes] at h3
 rw [cellsLabs] at h4
 obtain ⟨nm,rfl,e0⟩:=open_field_string h0
 obtain ⟨qu,rfl,e1⟩:=open_field_string h1
 obtain ⟨pr,rfl⟩:=open_field_int h2
 obtain ⟨a,b,c,rfl,rfl,rfl⟩:=open_field_res h3
 obtain ⟨A,m,cp,l,rfl,hl⟩:=open_field_labs h4
 obtain ⟨ap,rfl,e5⟩:=open_field_string h5
 obtain ⟨ga,rfl,e6⟩:=open_field_string h6
 obtain ⟨sz,rfl⟩:=open_field_int h7
 exact ⟨nm,qu,pr,a,b,c,A,m,cp,l,ap,ga,sz,y2.1,y3.1,y4.1,y7.1,rfl,rfl,rfl,rfl,rfl,rfl,rfl,rfl,rfl,rfl,by have:=congrArg Prod.fst hx;simpa [e0,e1,e5,e6] using this,hl⟩
theorem sized_op {ts:List TypeId}{ds:List (DataW H)}(h:(DataW.weightsEach Tryz.prog ts ds).all (· <= reachBytes)=true){j:Nat}{nn qn tn tq ta tg s:ByteArray}{d0 da dl qa e2 e3 e4 e7:DataW H}(ht:ts[j]? = some 49)
  (hd:ds[j]? = some (.agg [d0,.agg [.lit (.string nn.data.toList),da,dl],.agg [.lit (.string qn.data.toList),qa],.agg [.lit (.string tn.data.toList),.lit (.string tq.data.toList),e2,e3,e4,.lit (.string ta.data.toList),.lit (.string tg.data.toList),e7],.lit (.string s.data.toList)]))
  {A1 A3:Option Addr}{m1 p1 m3 p3:Nat}{l1 l3:List Lb}(hl1:LabsIn W dl A1 m1 p1 l1)(hl3:LabsIn W e4 A3 m3 p3 l3) :
  Sz l1/\Sz l3/\nn.size<=140737488351232/\qn.size<=140737488351232/\tn.size<=140737488351232/\tq.size<=140737488351232/\ta.size<=140737488351232/\tg.size<=140737488351232/\s.size<=140737488351232:=by
 have hi:=sized_inner h Tryz.underlying49 ht hd
 obtain ⟨n1,n2⟩:=sized_node hi (j:=1) rfl rfl hl1
 have q1:=sized_queue hi (j:=2) rfl rfl
 obtain ⟨t1,t2,t3,t4,t5⟩:=sized_task hi (j:=3) rfl rfl hl3
 exact ⟨n2,t5,n1,q1,t1,t2,t3,t4,sized_str hi (j:=4) rfl rfl⟩
end
end
section
open Go.ChangeShapes Go.WideShapes Go.RowKit Go.Deep
def eZ (x:Oz):List Value:=x.arr.toList
structure RdOps (w:World)(A:Option Addr)(z:List Oz):Prop where
 rd:RdK w 21 A (z.map eZ)
 ok:∀ x ∈ z,OzOk w x
theorem RdOps.later {w w':World}{A:Option Addr}{z:List Oz}(h:RdOps w A z)(hb:Below w.heap.size w w'):RdOps w' A z:=⟨h.rd.later hb,fun x hx=>(h.ok x hx).later hb⟩
section
variable {H:Type}{enc:TypeId × Value->H}{W:World}{base:Nat}{sp:Nat->Bool}{held:Bool}
def OzIn (W:World)(d:DataW H)(x:Oz):Prop:=∃ d0 da dl qa e2 e3 e4 e7,d = .agg [d0,.agg [.lit (.string x.v.nn.data.toList),da,dl],.agg [.lit (.string x.v.qn.data.toList),qa],.agg [.lit (.string x.v.tn.data.toList),.lit (.string x.v.tq.data.toList),e2,e3,e4,.lit (.string x.v.ta.data.toList),.lit (.string x.v.tg.data.toList),e7],.lit (.string x.v.s.data.toList)]/\LabsIn W dl x.A1 x.m1 x.p1 x.v.l1/\LabsIn W e4 x.A3 x.m3 x.p3 x.v.l3

theorem trod_oz {fuel:Nat}{cs:List Value}{x:DataW H × List MemPlace}(hf:DataW.trod enc Tryz.prog W base sp held fuel 49 cs=some x):∃ y:Oz,cs=eZ y/\OzIn W x.1 y:=by
 obtain ⟨ys,n,_,hx,hsz,hyl,hg⟩:=DataW.trod_struct Tryz.underlying49 hf
 rw [cellsOp] at hsz
 obtain ⟨x0,x1,x2,x3,x4,x5,x6,x7,x8,x9,u0,u1,u2,u3,u4,u5,u6,u7,u8,u9,z,rfl⟩:=list21 cs hsz
 obtain ⟨y0,y1,y2,y3,y4,rfl⟩:=list5 ys (by simpa using hyl)
 have h0:DataW.trod enc Tryz.prog W base sp held n 3 (List.take (Tryz.prog.cellsOf 3) [x0,x1,x2,x3,x4,x5,x6,x7,x8,x9,u0,u1,u2,u3,u4,u5,u6,u7,u8,u9,z])=some y0:=hg 0 _ rfl
 have h1:DataW.trod enc Tryz.prog W base sp held n 43 (List.take (Tryz.prog.cellsOf 43) [x1,x2,x3,x4,x5,x6,x7,x8,x9,u0,u1,u2,u3,u4,u5,u6,u7,u8,u9,z])=some y1:=hg 1 _ rfl
 have h2:DataW.trod enc Tryz.prog W base sp held n 45 (List.take (Tryz.prog.cellsOf 45) [x6,x7,x8,x9,u0,u1,u2,u3,u4,u5,u6,u7,u8,u9,z])=some y2:=hg 2 _ rfl
 have h3:DataW.trod enc Tryz.prog W base sp held n 47 (List.take (Tryz.prog.cellsOf 47) [u0,u1,u2,u3,u4,u5,u6,u7,u8,u9,z])=some y3:=hg 3 _ rfl
 have h4:DataW.trod enc Tryz.prog W base sp held n 9 (List.take (Tryz.prog.cellsOf 9) [z])=some y4:=hg 4 _ rfl
 rw [cellsInt] at h0
 rw [cellsNode] at h1
 rw [cellsQueue] at h2
 rw [cellsTask] at h3
 rw [cells9] at h4
 obtain ⟨k,rfl⟩:=open_field_int h0
 obtain ⟨nn,a1,b1,c1,A1,m1,p1,l1,da,dl,rfl,rfl,rfl,rfl,rfl,e1,hl1⟩:=open_node_f h1
 obtain ⟨qn,a2,b2,c2,qa,rfl,rfl,rfl,rfl,e2⟩:=open_queue_f h2
 obtain ⟨tn,tq,tp,a3,b3,c3,A3,m3,p3,l3,ta,tg,ts,d2,d3,d4,d7,rfl,rfl,rfl,rfl,rfl,rfl,rfl,rfl,rfl,rfl,e3,hl3⟩:=open_task_f h3
 obtain ⟨s,rfl,e4⟩:=open_field_string h4
 exact ⟨⟨⟨k,nn,a1,b1,c1,l1,qn,a2,b2,c2,tn,tq,tp,a3,b3,c3,l3,ta,tg,ts,s⟩,A1,m1,p1,A3,m3,p3⟩,rfl,y0.1,da,dl,qa,d2,d3,d4,d7,by have:=congrArg Prod.fst hx;simpa [e1,e2,e3,e4] using this,hl1,hl3⟩
theorem open_rowsO {κ:Type}{a:Option Addr}{len cap:Nat}{d:DataW H}{p:List MemPlace}{tS e k:Nat}(encE:κ->List Value)(okE:DataW H->κ->Prop)
  (hu:Tryz.prog.underlying tS=some (.slice e))(hk:Tryz.prog.cellsOf e=k)(hk0:0<k)(hlen:∀ y,(encE y).length=k)
  (htr:∀ (sp:Nat->Bool)(held:Bool) (base fuel:Nat)(cs:List Value)(x:DataW H × List MemPlace),DataW.trod enc Tryz.prog W base sp held fuel e cs=some x -> ∃ y:κ,cs=encE y/\okE x.1 y)
  (h:DataW.Trod enc Tryz.prog W base sp held tS (.slice a len cap) d p) :
  ∃ l:List κ,len=l.length/\RdK W k a (l.map encE)/\len<=cap/\cap<=9223372036854775807 /\ ∀ y ∈ l,∃ elems spare e,d = .slice elems spare/\e ∈ elems/\okE e y:=by
 obtain ⟨fuel,hf⟩:=h
 rcases open_slice hu hf with ⟨hcs,_⟩ | ⟨x,n',c,m,n,D,Pl,hcs,_,hl,hm,hmm,hx,hi⟩
 ·simp [Value.cells] at hcs
  obtain ⟨rfl,rfl,rfl⟩:=hcs
  exact ⟨[],rfl,RdK.nil _ _ _,Nat.le_refl _,by omega,by simp⟩
 ·simp [Value.cells] at hcs
  obtain ⟨rfl,rfl,rfl⟩:=hcs
  rw [hk] at hi
  have hlm:len<=m:=by rw [hmm];split <;> omega
  have hm':cap<=9223372036854775807:=by unfold maxLen at hm;omega
  have hdat:d = .slice ((List.range len).map D) ((List.range (m - len)).map fun j=>D (len+j)):=congrArg Prod.fst hx
  have hspot:0<len->x.spot=none:=fun h=>by
   obtain ⟨cs',hc,ht⟩:=hi 0 (by omega)
   obtain ⟨_,hcl,hat⟩:=World.cells?_some hc
   have h0:=hat 0 (by omega)
   rw [List.getElem?_eq_getElem (by omega)] at h0
   simpa [Addr.add] using World.cell?_spot h0
  have key:∀ i,i<len -> ∃ y:κ,∃ g o,x=⟨g,o,none⟩/\W.rangeAt g (o+i * k) (encE y)/\okE (D i) y:=fun i hlt=>by
   obtain ⟨cs',hc,ht⟩:=hi i (by omega)
   obtain ⟨_,hcl,hat⟩:=World.cells?_some hc
   obtain ⟨y,rfl,hok⟩:=htr _ _ _ _ _ _ ht
   obtain ⟨g,o,spot⟩:=x
   have hs:spot=none:=hspot (by omega)
   subst hs
   refine ⟨y,g,o,rfl,fun j v hv=>?_,hok⟩
   have hj:j<k:=by rw [<- hlen y];exact (List.getElem?_eq_some_iff.1 hv).1
   have h1:=hat j (by omega)
   rw [Addr.add_lit,Addr.add_lit,hv] at h1
   exact h1
  have pick:∀ n,n<=len -> ∃ l:List κ,l.length=n/\RdK W k (some x) (l.map encE) /\ ∀ i y,l[i]? = some y->okE (D i) y:=by
   intro n
   induction n with
   | zero=>exact fun _=>⟨[],rfl,RdK.nil _ _ _,fun i y hy=>by simp at hy⟩
   | succ n ih=>
    intro hn
    obtain ⟨l,hll,hr,hall⟩:=ih (by omega)
    obtain ⟨y,g,o,hxx,hrg,hok⟩:=key n (by omega)
    refine ⟨l ++ [y],by simp [hll],fun i z hz=>?_,fun i z hz=>?_⟩
    ·rw [List.map_append] at hz
     by_cases hi':i<(l.map encE).length
     ·rw [List.getElem?_append_left hi'] at hz;exact hr i z hz
     ·rw [List.getElem?_append_right (by omega)] at hz
      have e:i=n:=by
       have:=(List.getElem?_eq_some_iff.1 hz).1
       simp at this hi';omega
      subst e
      simp [hll] at hz
      subst hz
      exact ⟨g,o,by rw [hxx],hrg⟩
    ·by_cases hi':i<l.length
     ·rw [List.getElem?_append_left hi'] at hz;exact hall i z hz
     ·rw [List.getElem?_append_right (by omega)] at hz
      have e:i=n:=by
       have:=(List.getElem?_eq_some_iff.1 hz).1
       simp at this;omega
      subst e
      rw [show i - l.length=0 by omega] at hz
      simp at hz;subst hz
      exact hok
  obtain ⟨l,hll,hr,hall⟩:=pick len (Nat.le_refl _)
  refine ⟨l,hll.symm,hr,by omega,hm',fun y hy=>?_⟩
  obtain ⟨i,hi',e⟩:=List.getElem_of_mem hy
  exact ⟨_,_,D i,hdat,List.mem_map.2 ⟨i,List.mem_range.2 (by omega),rfl⟩,hall i y (by rw [List.getElem?_eq_getElem hi',e])⟩
theorem open_ozs {a:Option Addr}{len cap:Nat}{d:DataW H}{p:List MemPlace}(h:DataW.Trod enc Tryz.prog W base sp held 22 (.slice a len cap) d p):∃ l:List Oz,len=l.length/\RdK W 21 a (l.map eZ)/\len<=cap/\cap<=9223372036854775807 /\ ∀ y ∈ l,∃ elems spare e,d = .slice elems spare/\e ∈ elems/\OzIn W e y:=
 open_rowsO eZ (OzIn W) Tryz.underlying22 cellsOp (by omega) (fun _=>rfl) (fun _ _ _ _ _ _ h=>trod_oz h) h
theorem okOz {ts:List TypeId}{ds:List (DataW H)}(h:(DataW.weightsEach Tryz.prog ts ds).all (· <= reachBytes)=true){j:Nat}{d:DataW H}(ht:ts[j]? = some 49)(hd:ds[j]? = some d){W:World}{x:Oz}(hk:OzIn W d x):OzOk W x:=by
 obtain ⟨d0,da,dl,qa,e2,e3,e4,e7,rfl,h1,h3⟩:=hk
 obtain ⟨z1,z3,n1,q1,t1,t2,t3,t4,s1⟩:=sized_op h ht hd h1 h3
 exact ⟨⟨h1.len,h1.rd,h1.cap,h1.cap2,z1⟩,⟨h3.len,h3.rd,h3.cap,h3.cap2,z3⟩,n1,q1,t1,t2,t3,t4,s1⟩
theorem okOzs {ts:List TypeId}{ds:List (DataW H)}(h:(DataW.weightsEach Tryz.prog ts ds).all (· <= reachBytes)=true){j:Nat}{d:DataW H}(ht:ts[j]? = some 22)(hd:ds[j]? = some d){W:World}{L:List Oz}
  (hL:∀ y ∈ L,∃ elems spare e,d = .slice elems spare/\e ∈ elems/\OzIn W e y):∀ y ∈ L,OzOk W y:=fun x hx=>by
 obtain ⟨el,spa,e,rfl,he,hk⟩:=hL x hx
 have hall:(DataW.weightsEach Tryz.prog [49] [e]).all (· <= reachBytes)=true:=by
  rw [List.all_eq_true] at h ⊢
  intro n hn
  refine h n (DataW.weights_mem_each ht hd n ?_)
  simp only [DataW.weights,Tryz.underlying22,List.mem_cons,List.mem_append]
  refine .inr (.inl (weightsAll_mem' he n ?_))
  simpa [DataW.weightsEach] using hn
 exact okOz hall (j:=0) rfl rfl hk
end


theorem few15_any (A:Option Addr) (n c:Nat)(z:List Oz)(w:World)(hn:Hid (n=z.length))(hm:n<=9223372036854775807)(hr:Hid (RdOps w A z)):Calls Tryz.prog 13 #[.slice A n c] w fun e w'=>RetIf e (n<=150 /\ ∀ x ∈ z,x.m1<=20/\x.m3<=20)/\Below w.heap.size w w':=by
 by_cases h1:n<=150
 case neg=>
  have hni:(150:Int)<(n:Int):=by omega
  clear h1
  go_enter Tryz.func13,Tryz.ntmps13
  go_wp2_with fail
  go_ret
  exact ⟨RetIf.no,Below.refl _ _⟩
 have hni:¬ (150:Int)<(n:Int):=by omega
 have H1:=Lib.hid h1
 have KS:=Lib.hid (fun (x:Oz) W (h:OzOk W x)=>small15_any x W h)
 clear hm h1
 go_enter Tryz.func13,Tryz.ntmps13
 go_wp2_with fail
 clear hni
 go_loopw [9] (fun s9 wr=>∃ k:Nat,k<=n/\s9 = .int .i64 k/\Hid (∀ x ∈ z.take k,x.m1<=20/\x.m3<=20)/\Hid (Below w.heap.size w wr)) (fun s9 wr=>n - (intOf s9).toNat)
 case atStart=>exact ⟨0,Nat.zero_le _,rfl,(by intro x hx;simp at hx),Below.refl _ _⟩
 case round=>
  obtain ⟨k,hk,rfl,HA,HB⟩:=hrel
  by_cases hlt:k<n
  ·have hkl:Hid (k<z.length):=by show k<z.length;rw [<- hn.out];exact hlt
   obtain ⟨x,hx⟩:∃ x,x=z[k]'hkl.out:=⟨_,rfl⟩
   obtain ⟨g,o,hA,hrg⟩:=(hr.out.later HB.out).rd.at (i:=k) (by rw [List.length_map];exact hkl.out)
   rw [List.getElem_map,<- hx] at hrg
   have HX:Hid (wr.rangeAt g (o+k * 21) x.arr.toList):=hrg
   have HOK:Hid (OzOk wr x):=(hr.out.later HB.out).ok x (by rw [hx];exact List.getElem_mem _)
   have HXE:=Lib.hid hx
   subst hA
   have hwk:wrap64 ((k:Int)+1)=((k+1:Nat):Int):=by have:=H1.out;unfold wrap64;omega
   clear hrg hx
   go_wp2_with (with_reducible refine load_rg rfl 49 _ rfl g (o+k * 21) rfl x.arr _ HX.out Tryz.underlying49 rfl (by kernel_rfl) ?_)
   refine (KS.out x _ HOK.out).mono ?_
   rintro e w2 ⟨⟨b,rfl,hbt⟩,hb2⟩
   have HB2:=Lib.hid (HB.out.trans (hb2.mono HB.out.size))
   clear hb2
   cases b with
   | false=>
    clear hbt
    go_wp2_with fail
    go_ret
    exact ⟨RetIf.no,HB2.out⟩
   | true=>
    have HA2:Hid (∀ x ∈ z.take (k+1),x.m1<=20/\x.m3<=20):=mem_take_succ hkl.out HA.out (by rw [<- HXE.out];exact hbt rfl)
    clear hbt
    go_wp2_with fail
    go_round
    case rel=>exact ⟨k+1,by omega,by go_num,HA2,HB2⟩
    case measure=>
     first
     | (rw [hwk];show n - ((k+1:Nat):Int).toNat<n - ((k:Nat):Int).toNat;rw [Int.toNat_natCast,Int.toNat_natCast];omega)
     | (show n - ((k:Int)+1).toNat<n - ((k:Nat):Int).toNat;omega)
  ·have hkn:k=n:=by omega
   have HF:Hid (∀ x ∈ z,x.m1<=20/\x.m3<=20):=by have h:=HA.out;rw [hkn,hn.out,List.take_length] at h;exact h
   clear HA hk hlt
   subst hkn
   go_wp2_with fail
   go_ret
   exact ⟨RetIf.yes ⟨H1.out,HF.out⟩,HB.out⟩
end
end Go.Proofs.YtccccbofcnmdiaaGreat
