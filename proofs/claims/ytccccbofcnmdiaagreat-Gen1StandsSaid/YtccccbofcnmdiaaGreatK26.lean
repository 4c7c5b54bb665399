/- Lemmas that the law stands on. No condition. -/
import Derived.Test.YtccccbofcnmdiaaGreatK25
namespace Go.Proofs.YtccccbofcnmdiaaGreat
set_option linter.unusedSimpArgs false
set_option linter.unusedVariables false
set_option maxRecDepth 100000
set_option maxHeartbeats 51200000
section
open Go.RowKit
theorem stF_err {S:Sg}{v:Ov}:(stF S v).2.1 ≠ 0->(stF S v).2.2=[]/\(stF S v).1=S:=by
 unfold stF stepG
 split
 ·unfold opG
  split
  ·unfold addN
   repeat' split
   all_goals first | exact fun _=>⟨rfl,rfl⟩ | exact fun h=>absurd rfl h
  split
  ·unfold dropN'
   repeat' split
   all_goals first | exact fun _=>⟨rfl,rfl⟩ | exact fun h=>absurd rfl h
  split
  ·unfold addQ
   repeat' split
   all_goals first | exact fun _=>⟨rfl,rfl⟩ | exact fun h=>absurd rfl h
  split
  ·unfold dropQ
   repeat' split
   all_goals first | exact fun _=>⟨rfl,rfl⟩ | exact fun h=>absurd rfl h
  split
  ·unfold subJ
   repeat' split
   all_goals first | exact fun _=>⟨rfl,rfl⟩ | exact fun h=>absurd rfl h
  split
  ·unfold canJ
   by_cases hp:plJ v.s S.J<0
   ·rw [if_pos hp];exact fun _=>⟨rfl,rfl⟩
   ·rw [if_neg hp];exact fun h=>absurd rfl h
  split
  ·unfold finJ
   repeat' split
   all_goals first | exact fun _=>⟨rfl,rfl⟩ | exact fun h=>absurd rfl h
  split
  ·unfold beatN
   repeat' split
   all_goals first | exact fun _=>⟨rfl,rfl⟩ | exact fun h=>absurd rfl h
  ·unfold tickG
   split
   ·exact fun _=>⟨rfl,rfl⟩
   ·exact fun h=>absurd rfl h
 ·exact fun _=>⟨rfl,rfl⟩
section
variable {o:Oper}{a:Act}{w:World}{K:Act->World->Prop}{Q:Exit->Act->World->Prop}
theorem rcell_op (ho:o.op = .alloc 40)(h:∀ g w',g=w.heap.size->Bk w' g 40 #[.int .i64 0,.int .i64 0,.int .i64 0]->Below w.heap.size w w' -> K (a.put o.dst (.pointer (some ⟨g,0,none⟩))) w'):o.wp Tryz.prog a w K Q:=by
 unfold Oper.wp execOp
 simp only [ho]
 go_simp
 exact h _ _ rfl (Bk.fresh w _ _) ((Below.refl _ _).alloc (Nat.le_refl _) _)
end
end
section
open Go.RowKit
namespace gen1Stands


theorem walk (B0:Option Addr) (N cap:Nat)(z:List Oz)(w:World)(hn0:N=z.length)(hr0:RdK w 21 B0 (z.map eZ))(hc1:N<=cap)(hc2:cap<=9223372036854775807)(ho0:∀ x ∈ z,OzOk w x) :
  Calls Tryz.prog 5 #[.slice B0 N cap] w fun r w'=>r = .returned (.bool true)/\Below w.heap.size w w':=by
 have K1:=Lib.hid (fun W=>awake15_any W)
 have K7:=Lib.hid (fun (A:Option Addr) (n c:Nat)(l:List Oz)(W:World)(hn:n=l.length)(hm:n<=9223372036854775807)(hr:RdOps W A l)=>few15_any A n c l W (Lib.hid hn) hm (Lib.hid hr))
 have HN:=Lib.hid hn0
 have HRD:Hid (RdOps w B0 z):=⟨hr0,ho0⟩
 have HNM:Hid (N<=9223372036854775807):=by show _<=_;omega
 have HNC:Hid (N<=cap/\cap<=9223372036854775807):=⟨hc1,hc2⟩
 clear hn0 hr0 ho0 hc1 hc2
 go_enter Tryz.func5,Tryz.ntmps5
 go_wp2_with fail
 refine (K1.out _).mono ?_;rintro e w1 ⟨rfl,hb1⟩
 have HB1:=Lib.hid hb1
 clear hb1
 go_wp2_with fail
 refine (K7.out B0 N cap z _ HN.out HNM.out (HRD.out.later HB1.out)).mono ?_;rintro e w2 ⟨⟨b,rfl,hfew⟩,hb2⟩
 have HB2:=Lib.hid (HB1.out.trans (hb2.mono HB1.out.size))
 clear hb2 HB1 HNM
 cases b with
 | false=>
  go_wp2_with fail
  refine (K1.out _).mono ?_;rintro e w3 ⟨rfl,hb3⟩
  go_wp2_with fail
  go_ret
  exact ⟨rfl,HB2.out.trans (hb3.mono HB2.out.size)⟩
 | true=>
  have HN150:Hid (N<=150):=(hfew rfl).1
  have HSM:Hid (∀ x ∈ z,x.m1<=20/\x.m3<=20):=(hfew rfl).2
  clear hfew
  go_wp2_with fail
  refine (t1_new w w2 HB2.out).mono ?_;rintro e w3 ⟨rfl,hT3⟩
  have HT3:=Lib.hid hT3
  obtain ⟨g,hg⟩:∃ g,g=w2.heap.size:=⟨_,rfl⟩
  rw [<- hg] at HT3 ⊢
  clear hT3 hg HB2
  have HT3':Hid (∃ F,T1 w w3 g F Sg.new 0):=⟨_,HT3.out⟩
  clear HT3
  go_wp2_with fail
  go_loopw [27] (fun s27 wr=>∃ (i:Nat)(F:Nat->Prop)(S:Sg),i<=N/\s27 = .int .i64 i/\Hid (T1 w wr g F S (1001000 * (i:Int)))/\Hid (Rg S)) (fun s27 wr=>N - (intOf s27).toNat)
  case atStart=>
   obtain ⟨F,HT⟩:=HT3'.out
   exact ⟨0,F,Sg.new,Nat.zero_le _,rfl,HT,Rg.new⟩
  case round=>
   clear HT3'
   obtain ⟨i,F,S,hi,rfl,HT,HRS⟩:=hrel
   have hm0:(0:Int)<=1001000 * (i:Int):=Int.mul_nonneg (by decide) (Int.natCast_nonneg i)
   have HMM:Hid (1001000 * (i:Int)<=1152921504606846976):=by show _<=_;have:=HN150.out;omega
   have HM0:=Lib.hid hm0
   clear hm0
   by_cases hin:i<N
   ·skip
    have hil:Hid (i<z.length):=by show i<z.length;rw [<- HN.out];exact hin
    obtain ⟨x,hx⟩:∃ x,x=z[i]'hil.out:=⟨_,rfl⟩
    obtain ⟨q,o,hA,hrg⟩:=HRD.out.rd.at (i:=i) (by rw [List.length_map];exact hil.out)
    rw [List.getElem_map,<- hx] at hrg
    subst hA
    have hxm:x ∈ z:=by rw [hx];exact List.getElem_mem _
    have HOKW:=Lib.hid (HRD.out.ok x hxm)
    have hsm:=HSM.out x hxm
    have HL1:Hid (x.v.l1.length<=1000):=by show _<=_;have:=HOKW.out.l1.len;have:=hsm.1;omega
    have HL3:Hid (x.v.l3.length<=1000):=by show _<=_;have:=HOKW.out.l3.len;have:=hsm.2;omega
    have HRG:Hid (w.rangeAt q (o+i * 21) x.arr.toList):=hrg
    have hii:(i:Int)<(N:Int):=Int.ofNat_lt.2 hin
    have HMI:Hid (1001000 * ((i+1:Nat):Int)=1001000 * (i:Int)+1001000):=by show _=_;omega
    have HMS:Hid (1001000 * (i:Int)+1001000<=1099511627776):=by show _<=_;have:=HN150.out;omega
    clear hx hrg hxm hsm hil
    go_wp2_with fail
    refine (gx_told HT.out.g1 HT.out.i1).mono ?_
    rintro e wa ⟨⟨⟨ck0,nx0,A0,N0,cA0,B0',K0,cB0,C0,n0,cC0⟩,Ta,rfl,hO,hS,hbr,hck,hnx⟩,hba⟩
    have HOa:=Lib.hid hO;have HBa:=Lib.hid hbr;have HCa:=Lib.hid hck;have HXa:=Lib.hid hnx
    have HTa:=Lib.hid (HT.out.below hba)
    have HFa:Hid (∀ k,F k->k<wr.heap.size):=fun k hk=>(HT.out.b1 k hk).2
    have HSZ:Hid (wr.heap.size<=wa.heap.size):=hba.size
    clear hO hS hbr hck hnx hba HT
    go_wp2_with (first | ((with_reducible refine store_bk rfl 31 (.tmp 5) (.tmp 31) rfl wa.heap.size 0 (⟨ck0,nx0,A0,N0,cA0,B0',K0,cB0,C0,n0,cC0⟩:Sv).arr rfl rfl 31 _ (⟨ck0,nx0,A0,N0,cA0,B0',K0,cB0,C0,n0,cC0⟩:Sv).arr (Bk.fresh _ _ _) (by kernel_rfl) (by simp) (by kernel_rfl) rfl ?_);intro w5 hBw5 hgw5 hsw5;have HBw5:=Lib.hid hBw5;have HLw5:Hid (Below wa.heap.size wa w5):=((Below.refl _ _).alloc (Nat.le_refl _) _).grown hgw5 (by simp) (by intro k hk;injection hk with hk;omega);clear hBw5 hgw5 hsw5;have HT5:=Lib.hid (HTa.out.below HLw5.out);have HO5:=Lib.hid (HOa.out.below HLw5.out)) | (with_reducible refine load_rg rfl 49 _ rfl q (o+i * 21) rfl x.arr _ (range_keep HRG.out HT5.out.be) Tryz.underlying49 rfl (by kernel_rfl) ?_))
    obtain ⟨p5,hp5⟩:∃ p,p=wa.heap.size:=⟨_,rfl⟩
    rw [<- hp5] at HBw5 ⊢
    have HP5:Hid (¬ F p5):=fun e=>by have h1:=HFa.out _ e;have h2:=HSZ.out;omega
    clear hp5
    refine (t1_do HT5.out HM0.out HMM.out x (HOKW.out.later HT5.out.be) HL1.out HL3.out).mono ?_
    rintro e w6 ⟨⟨A1,n1,c1,rfl,hR⟩,hT6,hG6⟩
    have HT6:=Lib.hid hT6
    have HB56:=Lib.hid (HBw5.out.grp hG6 HP5.out)
    have HO6:=Lib.hid (HO5.out.grp hG6 fun k hk hf=>by have h1:=HFa.out _ hf;have h2:=(HO5.out.blk hk).1;omega)
    have hnb:n1<=2001000:=by rw [hR.1];exact stF_few HT5.out.i1 HMM.out x.v
    have hc1':n1<=c1:=hR.2.2.1
    have hc2':c1<=9223372036854775807:=hR.2.2.2.1
    have HER:Hid ((stF S x.v).2.1 ≠ 0->n1=0/\(stF S x.v).1=S):=fun h=>by
     obtain ⟨e1,e2⟩:=stF_err h
     exact ⟨by rw [hR.1,e1];rfl,e2⟩
    have HRN:Hid (Rg (stF S x.v).1):=HRS.out.step HT5.out.i1 x.v
    obtain ⟨er,her⟩:∃ er,er=(stF S x.v).2.1:=⟨_,rfl⟩
    rw [<- her] at HER ⊢
    clear her
    obtain ⟨F6,hF6⟩:∃ G,G=nextF F w5 w6:=⟨_,rfl⟩
    rw [<- hF6] at HT6
    clear hT6 hG6 hR HBw5 HT5 HO5 HTa HOa hF6
    go_wp2_with (first | ((with_reducible refine store_bk rfl 36 (.tmp 6) (.tmp 37) rfl w6.heap.size 0 #[.int .i64 er,.slice A1 n1 c1] rfl rfl 36 _ #[.int .i64 er,.slice A1 n1 c1] (Bk.fresh _ _ _) (by kernel_rfl) (by simp) (by kernel_rfl) rfl ?_);intro w7 hBw7 hgw7 hsw7;have HBw7:=Lib.hid hBw7;have HLw7:Hid (Below w6.heap.size w6 w7):=((Below.refl _ _).alloc (Nat.le_refl _) _).grown hgw7 (by simp) (by intro k hk;injection hk with hk;omega);clear hBw7 hgw7 hsw7;have HT7:=Lib.hid (HT6.out.below HLw7.out);have HO7:=Lib.hid (HO6.out.below HLw7.out);have HB57:=Lib.hid (HB56.out.later HLw7.out)))
    obtain ⟨p6,hp6⟩:∃ p,p=w6.heap.size:=⟨_,rfl⟩
    rw [<- hp6] at HBw7 ⊢
    clear hp6
    refine (gx_told HT7.out.g1 HT7.out.i1).mono ?_
    rintro e wb ⟨⟨⟨ck8,nx8,A8,N8,cA8,B8,K8,cB8,C8,n8,cC8⟩,Tb,rfl,hO,hS,hbr,hck,hnx⟩,hbb⟩
    have HSb:=Lib.hid hS;have HBb:=Lib.hid hbr
    have HTb:=Lib.hid (HT7.out.below hbb)
    have HOb:=Lib.hid (HO7.out.below hbb)
    have HB5b:=Lib.hid (HB57.out.later hbb)
    have HB6b:=Lib.hid (HBw7.out.later hbb)
    clear hO hS hbr hck hnx hbb HT7 HO7 HB57 HBw7 HT6 HO6 HB56
    go_wp2_with (first | ((with_reducible refine store_bk rfl 31 (.tmp 7) (.tmp 39) rfl wb.heap.size 0 (⟨ck8,nx8,A8,N8,cA8,B8,K8,cB8,C8,n8,cC8⟩:Sv).arr rfl rfl 31 _ (⟨ck8,nx8,A8,N8,cA8,B8,K8,cB8,C8,n8,cC8⟩:Sv).arr (Bk.fresh _ _ _) (by kernel_rfl) (by simp) (by kernel_rfl) rfl ?_);intro w9 hBw9 hgw9 hsw9;have HBw9:=Lib.hid hBw9;have HLw9:Hid (Below wb.heap.size wb w9):=((Below.refl _ _).alloc (Nat.le_refl _) _).grown hgw9 (by simp) (by intro k hk;injection hk with hk;omega);clear hBw9 hgw9 hsw9;have HT9:=Lib.hid (HTb.out.below HLw9.out);have HO9:=Lib.hid (HOb.out.below HLw9.out);have HB59:=Lib.hid (HB5b.out.later HLw9.out);have HB69:=Lib.hid (HB6b.out.later HLw9.out);have HS9:=Lib.hid (HSb.out.later HLw9.out)) | (with_reducible refine load_bk rfl 31 _ rfl wb.heap.size 0 rfl 31 (⟨ck8,nx8,A8,N8,cA8,B8,K8,cB8,C8,n8,cC8⟩:Sv).arr (⟨ck8,nx8,A8,N8,cA8,B8,K8,cB8,C8,n8,cC8⟩:Sv).arr _ HBw9.out (Part.whole _) Tryz.underlying31 rfl (by kernel_rfl) ?_))
    obtain ⟨p7,hp7⟩:∃ p,p=wb.heap.size:=⟨_,rfl⟩
    rw [<- hp7] at HBw9 ⊢
    have HSa9:Hid (RdSt w9 (⟨ck0,nx0,A0,N0,cA0,B0',K0,cB0,C0,n0,cC0⟩:Sv) Ta):=HO9.out.rdOf HCa.out HXa.out
    clear HTb HOb HB5b HB6b HSb HO9 hp7
    refine (right_yes (⟨ck8,nx8,A8,N8,cA8,B8,K8,cB8,C8,n8,cC8⟩:Sv) Tb (1001000 * (i:Int)+1001000) w9 HS9 (Lib.hid (HT9.out.i1.alike HBb.out)) HMS.out (Lib.hid (HRN.out.alike HBb.out))).mono ?_
    rintro e wc ⟨rfl,hbc⟩
    have HTc:=Lib.hid (HT9.out.below hbc)
    have HB7c:=Lib.hid (HBw9.out.later hbc)
    have HB5c:=Lib.hid (HB59.out.later hbc)
    have HB6c:=Lib.hid (HB69.out.later hbc)
    have HSac:=Lib.hid (HSa9.out.later hbc)
    have HSbc:=Lib.hid (HS9.out.later hbc)
    clear hbc HT9 HBw9 HB59 HB69 HSa9 HS9
    have c60:wc.cell? ⟨p6,0,none⟩=some (.int .i64 er):=HB6c.out.cellAt 0
    by_cases h0:er=0
    ·subst h0
     have HTn:=HTc;have HB7n:=HB7c;have HSn:=HSbc
     obtain ⟨wx,hwx⟩:∃ W,W=wc:=⟨_,rfl⟩
     rw [<- hwx] at HTn HB7n HSn HB6c c60 ⊢
     clear hwx
     have HRb:Hid (Rg Tb):=HRN.out.alike HBb.out
     have HIb:Hid (In2 (1001000 * (i:Int)+1001000) Tb):=HTn.out.i1.alike HBb.out
     have HN8:Hid (N8=Tb.M.length):=HSn.out.N
     have HK8:Hid (K8=Tb.Q.length):=HSn.out.K
     have Hn8:Hid (n8=Tb.J.length):=HSn.out.n
     have hN8:N8<=16:=by rw [HN8.out];exact HIb.out.M
     have hK8:K8<=8:=by rw [HK8.out];exact HIb.out.Q
     have hn8:n8<=48:=by rw [Hn8.out];exact HIb.out.J
     have d1:N8<=cA8:=HSn.out.cA
     have d2:cA8<=9223372036854775807:=HSn.out.cA2
     have d3:K8<=cB8:=HSn.out.cB
     have d4:cB8<=9223372036854775807:=HSn.out.cB2
     have d5:n8<=cC8:=HSn.out.cC
     have d6:cC8<=9223372036854775807:=HSn.out.cC2
     have c72:wx.cell? ⟨p7,2,none⟩=some (.slice A8 N8 cA8):=HB7n.out.cellAt 2
     go_wp2_with fail
     clear c72
     clear c60
     go_loopw [63] (fun s63 wr=>∃ k:Nat,k<=N8/\s63 = .int .i64 k/\Hid (Below wx.heap.size wx wr)) (fun s63 wr=>N8 - (intOf s63).toNat)
     case atStart=>exact ⟨0,Nat.zero_le _,rfl,Below.refl _ _⟩
     case round=>
      obtain ⟨k,hk,rfl,HBK⟩:=hrel
      by_cases hlt:k<N8
      ·have hkl:k<Tb.M.length:=by rw [<- HN8.out];exact hlt
       obtain ⟨gm,om,hA2,hgm,hmm⟩:=(HSn.out.M.later HBK.out).at (i:=k) (by simpa [mcs] using hkl)
       rw [mcs_at hkl] at hmm
       obtain ⟨y,hy⟩:∃ y,y=Tb.M[k]:=⟨_,rfl⟩
       rw [<- hy] at hmm
       have HMt:=Lib.hid hmm
       obtain ⟨fa,fb,fc,fe,hfe⟩:∃ a b c e,freM y.1 (jbs Tb.J)=(a,b,c,e):=⟨_,_,_,_,rfl⟩
       have hf0:=HRb.out.free y (by rw [hy];exact List.getElem_mem hkl)
       rw [hfe] at hf0
       have hf1:fe=0:=hf0
       subst hf1
       have KF:=Lib.hid (fun (W:World)(h:Below wx.heap.size wx W)=>freeM_any y.1 C8 n8 cC8 (jbs Tb.J) W (Lib.hid (by rw [Hn8.out,jbs_length])) (by omega) (Lib.hid (HSn.out.J.later h)) fa fb fc 0 (Lib.hid hfe))
       change A8=some ⟨gm,om,none⟩ at hA2
       subst hA2
       have hkk:(k:Int)<(N8:Int):=Int.ofNat_lt.2 hlt
       have HGM:=Lib.hid hgm
       clear hmm hy hf0 hfe hkl
       go_wp2_with fail
       refine wp_region_held_drew (S:=fun W=>Below wr.heap.size wr W) (by kernel_rfl) (Below.drew (Below.refl _ _)) (fun hS0=>?_)
       refine wU (i:=0) (v:=?_) rfl ?_ hS0 ?_
       rotate_left
       ·intro W _;go_simp;try with_reducible rfl
       try simp only [Act.put,tD,tB,tA,tE,tF]
       refine wU (i:=1) (v:=?_) rfl ?_ hS0 ?_
       rotate_left
       ·intro W hSW;have c2:=(HB7n.out.later (HBK.out.trans (hSW.mono HBK.out.size))).cellAt 2;go_simp;try with_reducible rfl
       try simp only [Act.put,tZ]
       refine wU (i:=2) (v:=?_) rfl ?_ hS0 ?_
       rotate_left
       ·intro W _;go_simp;try with_reducible rfl
       try simp only [Act.put,tZ]
       refine wU (i:=3) (v:=?_) rfl ?_ hS0 ?_
       rotate_left
       ·intro W _;go_simp;try with_reducible rfl
       try simp only [Act.put,tZ]
       refine wT (i:=4) (v:=.agg y.1.arr) rfl (yields_rg (by rfl) 60 _ rfl gm (om+k * 7) rfl y.1.arr _ (fun W hW=>range_keep HMt.out.rg hW) Tryz.underlying60 rfl (by kernel_rfl)) hS0 ?_
       try simp only [Act.put,tZ]
       refine wU (i:=5) (v:=?_) rfl ?_ hS0 ?_
       rotate_left
       ·intro W _;go_simp;try with_reducible rfl
       try simp only [Act.put,tZ]
       refine wU (i:=6) (v:=?_) rfl ?_ hS0 ?_
       rotate_left
       ·intro W hSW;have c4:=(HB7n.out.later (HBK.out.trans (hSW.mono HBK.out.size))).cellAt 4;go_simp;try with_reducible rfl
       try simp only [Act.put,tZ]
       refine wpAnyH_ready (rs:=[7,11]) (by kernel_rfl) (by simp) ?_
       refine (AllReadyH.cons rfl (fun K hK=>?_) (AllReadyH.cons rfl (fun K hK=>?_) AllReadyH.nil))
       ·go_simp
        refine (KF.out _ (HBK.out.trans (hS0.mono HBK.out.size))).mono ?_
        rintro e y1 ⟨rfl,hb1⟩
        skip
        go_simp
        refine hK.out _ _ (hS0.trans (hb1.mono (Below.size hS0))) (fun hS1=>?_)
        clear hK K
        try simp only [Act.put,tZ]
        refine wU (i:=8) (v:=?_) rfl ?_ hS1 ?_
        rotate_left
        ·intro W _;go_simp;try with_reducible rfl
        try simp only [Act.put,tZ]
        refine wU (i:=9) (v:=?_) rfl ?_ hS1 ?_
        rotate_left
        ·intro W _;go_simp;try with_reducible rfl
        try simp only [Act.put,tZ]
        refine wU (i:=10) (v:=?_) rfl ?_ hS1 ?_
        rotate_left
        ·intro W _;go_simp;try with_reducible rfl
        try simp only [Act.put,tZ]
        refine wpAnyH_ready (rs:=[11]) (by kernel_rfl) (by simp) ?_
        refine AllReadyH.cons rfl (fun K hK=>?_) AllReadyH.nil
        simp only [if_pos,Region.wanted]
        refine rcell_op rfl ?_
        intro pr ya hpr hZ hbl
        have HZ:=Lib.hid hZ
        have HPR:Hid (wr.heap.size<=pr):=by rw [hpr];exact hS1.size
        clear hpr hZ
        refine hK.out _ _ (hS1.trans (hbl.mono (Below.size hS1))) (fun hS2=>?_)
        clear hK K
        try simp only [Act.put,tZ]
        refine wpAnyH_ready (rs:=[12]) (by kernel_rfl) (by simp) ?_
        refine AllReadyH.cons rfl (fun K hK=>?_) AllReadyH.nil
        simp only [if_pos,Region.wanted]
        refine store_bk_op 40 (.tmp 9) (.tmp 75) rfl pr 0 #[.int .i64 fa,.int .i64 fb,.int .i64 fc] rfl rfl 40 #[.int .i64 0,.int .i64 0,.int .i64 0] #[.int .i64 fa,.int .i64 fb,.int .i64 fc] HZ.out (by kernel_rfl) (by simp) (by kernel_rfl) rfl ?_
        intro yz hX hgr hs9
        clear HZ
        have HZ:=Lib.hid hX
        clear hX hs9
        refine hK.out _ _ ((hS2).grown hgr (Below.size hS2) (fun k e=>by injection e with e;subst e;exact HPR.out)) (fun hS3=>?_)
        clear hK K
        try simp only [Act.put,tZ]
        refine wU (i:=13) (v:=?_) rfl ?_ hS3 ?_
        rotate_left
        ·intro W _;go_simp;try with_reducible rfl
        try simp only [Act.put,tZ]
        refine wpAnyH_done (by kernel_rfl) ?_ _
        have HBF:=Lib.hid hS3
        go_wp2_with fail
        go_round
        case rel=>exact ⟨k+1,hlt,by go_num,HBK.out.trans (HBF.out.mono HBK.out.size)⟩
        case measure=>simp [intOf];omega
       ·simp only [if_pos,Region.wanted]
        refine rcell_op rfl ?_
        intro pr ya hpr hZ hbl
        have HZ:=Lib.hid hZ
        have HPR:Hid (wr.heap.size<=pr):=by rw [hpr];exact hS0.size
        clear hpr hZ
        refine hK.out _ _ (hS0.trans (hbl.mono (Below.size hS0))) (fun hS1=>?_)
        clear hK K
        try simp only [Act.put,tZ]
        refine wpAnyH_ready (rs:=[7]) (by kernel_rfl) (by simp) ?_
        refine AllReadyH.cons rfl (fun K hK=>?_) AllReadyH.nil
        go_simp
        refine (KF.out _ (HBK.out.trans (hS1.mono HBK.out.size))).mono ?_
        rintro e y1 ⟨rfl,hb1⟩
        have HZ2:=Lib.hid (HZ.out.later hb1);clear HZ;have HZ:=HZ2;clear HZ2
        go_simp
        refine hK.out _ _ (hS1.trans (hb1.mono (Below.size hS1))) (fun hS2=>?_)
        clear hK K
        try simp only [Act.put,tZ]
        refine wU (i:=8) (v:=?_) rfl ?_ hS2 ?_
        rotate_left
        ·intro W _;go_simp;try with_reducible rfl
        try simp only [Act.put,tZ]
        refine wU (i:=9) (v:=?_) rfl ?_ hS2 ?_
        rotate_left
        ·intro W _;go_simp;try with_reducible rfl
        try simp only [Act.put,tZ]
        refine wU (i:=10) (v:=?_) rfl ?_ hS2 ?_
        rotate_left
        ·intro W _;go_simp;try with_reducible rfl
        try simp only [Act.put,tZ]
        refine wpAnyH_ready (rs:=[12]) (by kernel_rfl) (by simp) ?_
        refine AllReadyH.cons rfl (fun K hK=>?_) AllReadyH.nil
        simp only [if_pos,Region.wanted]
        refine store_bk_op 40 (.tmp 9) (.tmp 75) rfl pr 0 #[.int .i64 fa,.int .i64 fb,.int .i64 fc] rfl rfl 40 #[.int .i64 0,.int .i64 0,.int .i64 0] #[.int .i64 fa,.int .i64 fb,.int .i64 fc] HZ.out (by kernel_rfl) (by simp) (by kernel_rfl) rfl ?_
        intro yz hX hgr hs9
        clear HZ
        have HZ:=Lib.hid hX
        clear hX hs9
        refine hK.out _ _ ((hS2).grown hgr (Below.size hS2) (fun k e=>by injection e with e;subst e;exact HPR.out)) (fun hS3=>?_)
        clear hK K
        try simp only [Act.put,tZ]
        refine wU (i:=13) (v:=?_) rfl ?_ hS3 ?_
        rotate_left
        ·intro W _;go_simp;try with_reducible rfl
        try simp only [Act.put,tZ]
        refine wpAnyH_done (by kernel_rfl) ?_ _
        have HBF:=Lib.hid hS3
        go_wp2_with fail
        go_round
        case rel=>exact ⟨k+1,hlt,by go_num,HBK.out.trans (HBF.out.mono HBK.out.size)⟩
        case measure=>simp [intOf];omega
      ·have c73:wr.cell? ⟨p7,3,none⟩=some (.slice B8 K8 cB8):=(HB7n.out.later HBK.out).cellAt 3
       go_wp2_with fail
       clear c73
       go_loopw [83] (fun s83 wr=>∃ k:Nat,k<=K8/\s83 = .int .i64 k/\Hid (Below wx.heap.size wx wr)) (fun s83 wr=>K8 - (intOf s83).toNat)
       case atStart=>exact ⟨0,Nat.zero_le _,rfl,HBK⟩
       case round=>
        clear HBK hk hlt
        obtain ⟨k,hk,rfl,HBK⟩:=hrel
        by_cases hlt:k<K8
        ·skip
         have hkl:k<Tb.Q.length:=by rw [<- HK8.out];exact hlt
         obtain ⟨gm,om,hA2,hgm,hmm⟩:=(HSn.out.Q.later HBK.out).at (i:=k) hkl
         obtain ⟨y,hy⟩:∃ y,y=Tb.Q[k]:=⟨_,rfl⟩
         rw [<- hy] at hmm
         have HMt:=Lib.hid hmm
         obtain ⟨fa,fb,fc,fe,hfe⟩:∃ a b c e,usdJ y.1 Tb.J=(a,b,c,e):=⟨_,_,_,_,rfl⟩
         have hf0:=HRb.out.used y (by rw [hy];exact List.getElem_mem hkl)
         rw [hfe] at hf0
         obtain ⟨hf1,hf2⟩:=hf0
         have hf3:fe=0:=hf1
         subst hf3
         have HF2:Hid (fB fa fb fc y.2.1 y.2.2.1 y.2.2.2=true):=hf2
         have KU:=Lib.hid (fun (W:World)(h:Below wx.heap.size wx W)=>used_any C8 n8 cC8 (jbs Tb.J) y.1 W (Lib.hid (by rw [Hn8.out,jbs_length])) (by omega) (Lib.hid (HSn.out.J.later h)) fa fb fc 0 (Lib.hid hfe))
         have KT:=Lib.hid (fun (W:World)=>fits_any fa fb fc y.2.1 y.2.2.1 y.2.2.2 W)
         change B8=some ⟨gm,om,none⟩ at hA2
         subst hA2
         have hkk:(k:Int)<(K8:Int):=Int.ofNat_lt.2 hlt
         have HGM:=Lib.hid hgm
         clear hmm hy hf1 hf2 hfe hkl
         go_wp2_with fail
         refine wp_region_held_drew (S:=fun W=>Below wr.heap.size wr W) (by kernel_rfl) (Below.drew (Below.refl _ _)) (fun hS0=>?_)
         refine wU (i:=0) (v:=?_) rfl ?_ hS0 ?_
         rotate_left
         ·intro W _;go_simp;try with_reducible rfl
         try simp only [Act.put,tD,tB,tA,tE,tF]
         refine wU (i:=1) (v:=?_) rfl ?_ hS0 ?_
         rotate_left
         ·intro W hSW;have c4:=(HB7n.out.later (HBK.out.trans (hSW.mono HBK.out.size))).cellAt 4;go_simp;try with_reducible rfl
         try simp only [Act.put,tZ]
         refine wU (i:=2) (v:=?_) rfl ?_ hS0 ?_
         rotate_left
         ·intro W _;go_simp;try with_reducible rfl
         try simp only [Act.put,tZ]
         refine wU (i:=3) (v:=?_) rfl ?_ hS0 ?_
         rotate_left
         ·intro W hSW;have c3:=(HB7n.out.later (HBK.out.trans (hSW.mono HBK.out.size))).cellAt 3;go_simp;try with_reducible rfl
         try simp only [Act.put,tZ]
         refine wU (i:=4) (v:=?_) rfl ?_ hS0 ?_
         rotate_left
         ·intro W _;go_simp;try with_reducible rfl
         try simp only [Act.put,tZ]
         refine wU (i:=5) (v:=?_) rfl ?_ hS0 ?_
         rotate_left
         ·intro W _;go_simp;try with_reducible rfl
         try simp only [Act.put,tZ]
         refine wU (i:=6) (v:=?_) rfl ?_ hS0 ?_
         rotate_left
         ·intro W _;go_simp;try with_reducible rfl
         try simp only [Act.put,tZ]
         refine wU (i:=7) (v:=?_) rfl ?_ hS0 ?_
         rotate_left
         ·intro W hSW;have c7:W.cell? ⟨gm,om+k * 4,none⟩=some (.string y.1):=range_keep HMt.out.rg hSW 0 _ rfl;go_simp;try with_reducible rfl
         try simp only [Act.put,tZ]
         refine wpAnyH_ready (rs:=[8,12]) (by kernel_rfl) (by simp) ?_
         refine (AllReadyH.cons rfl (fun K hK=>?_) (AllReadyH.cons rfl (fun K hK=>?_) AllReadyH.nil))
         ·go_simp
          refine (KU.out _ (HBK.out.trans (hS0.mono HBK.out.size))).mono ?_
          rintro e y1 ⟨rfl,hb1⟩
          skip
          go_simp
          refine hK.out _ _ (hS0.trans (hb1.mono (Below.size hS0))) (fun hS1=>?_)
          clear hK K
          try simp only [Act.put,tZ]
          refine wU (i:=9) (v:=?_) rfl ?_ hS1 ?_
          rotate_left
          ·intro W _;go_simp;try with_reducible rfl
          try simp only [Act.put,tZ]
          refine wU (i:=10) (v:=?_) rfl ?_ hS1 ?_
          rotate_left
          ·intro W _;go_simp;try with_reducible rfl
          try simp only [Act.put,tZ]
          refine wU (i:=11) (v:=?_) rfl ?_ hS1 ?_
          rotate_left
          ·intro W _;go_simp;try with_reducible rfl
          try simp only [Act.put,tZ]
          refine wpAnyH_ready (rs:=[12]) (by kernel_rfl) (by simp) ?_
          refine AllReadyH.cons rfl (fun K hK=>?_) AllReadyH.nil
          simp only [if_pos,Region.wanted]
          refine rcell_op rfl ?_
          intro pr ya hpr hZ hbl
          have HZ:=Lib.hid hZ
          have HPR:Hid (wr.heap.size<=pr):=by rw [hpr];exact hS1.size
          clear hpr hZ
          refine hK.out _ _ (hS1.trans (hbl.mono (Below.size hS1))) (fun hS2=>?_)
          clear hK K
          try simp only [Act.put,tZ]
          refine wpAnyH_ready (rs:=[13]) (by kernel_rfl) (by simp) ?_
          refine AllReadyH.cons rfl (fun K hK=>?_) AllReadyH.nil
          simp only [if_pos,Region.wanted]
          refine store_bk_op 40 (.tmp 12) (.tmp 96) rfl pr 0 #[.int .i64 fa,.int .i64 fb,.int .i64 fc] rfl rfl 40 #[.int .i64 0,.int .i64 0,.int .i64 0] #[.int .i64 fa,.int .i64 fb,.int .i64 fc] HZ.out (by kernel_rfl) (by simp) (by kernel_rfl) rfl ?_
          intro yz hX hgr hs9
          clear HZ
          have HZ:=Lib.hid hX
          clear hX hs9
          refine hK.out _ _ ((hS2).grown hgr (Below.size hS2) (fun k e=>by injection e with e;subst e;exact HPR.out)) (fun hS3=>?_)
          clear hK K
          try simp only [Act.put,tZ]
          refine wU (i:=14) (v:=?_) rfl ?_ hS3 ?_
          rotate_left
          ·intro W _;go_simp;try with_reducible rfl
          try simp only [Act.put,tZ]
          refine wpAnyH_done (by kernel_rfl) ?_ _
          have HBF:=Lib.hid hS3
          go_wp2_with fail
          have HBX:Hid (Below wx.heap.size wx yz):=HBK.out.trans (HBF.out.mono HBK.out.size)
          have HMy:Hid (∀ W,Below yz.heap.size yz W->W.rangeAt gm (om+k * 4) y.arr.toList):=fun W hW=>range_keep (range_keep HMt.out.rg HBF.out) hW
          refine wp_region_held_drew (S:=fun W=>Below yz.heap.size yz W) (by kernel_rfl) (Below.drew (Below.refl _ _)) (fun hS0=>?_)
          refine wU (i:=0) (v:=?_) rfl ?_ hS0 ?_
          rotate_left
          ·intro W _;go_simp;try with_reducible rfl
          try simp only [Act.put,tD,tB,tA,tE,tF]
          refine wU (i:=1) (v:=?_) rfl ?_ hS0 ?_
          rotate_left
          ·intro W _;go_simp;try with_reducible rfl
          try simp only [Act.put,tZ]
          refine wU (i:=2) (v:=?_) rfl ?_ hS0 ?_
          rotate_left
          ·intro W _;go_simp;try with_reducible rfl
          try simp only [Act.put,tZ]
          refine wT (i:=3) (v:=.agg #[.int .i64 fa,.int .i64 fb,.int .i64 fc]) rfl (yields_bk (by rfl) 40 _ rfl pr 0 rfl 40 #[.int .i64 fa,.int .i64 fb,.int .i64 fc] #[.int .i64 fa,.int .i64 fb,.int .i64 fc] _ (fun W hW=>HZ.out.later hW) (Part.whole _) Tryz.underlying40 rfl (by kernel_rfl)) hS0 ?_
          try simp only [Act.put,tZ]
          refine wU (i:=4) (v:=?_) rfl ?_ hS0 ?_
          rotate_left
          ·intro W _;go_simp;try with_reducible rfl
          try simp only [Act.put,tZ]
          refine wU (i:=5) (v:=?_) rfl ?_ hS0 ?_
          rotate_left
          ·intro W hSW;have c3:=(HB7n.out.later (HBX.out.trans (hSW.mono HBX.out.size))).cellAt 3;go_simp;try with_reducible rfl
          try simp only [Act.put,tZ]
          refine wU (i:=6) (v:=?_) rfl ?_ hS0 ?_
          rotate_left
          ·intro W _;go_simp;try with_reducible rfl
          try simp only [Act.put,tZ]
          refine wU (i:=7) (v:=?_) rfl ?_ hS0 ?_
          rotate_left
          ·intro W _;go_simp;try with_reducible rfl
          try simp only [Act.put,tZ]
          refine wU (i:=8) (v:=?_) rfl ?_ hS0 ?_
          rotate_left
          ·intro W _;go_simp;try with_reducible rfl
          try simp only [Act.put,tZ]
          refine wT (i:=9) (v:=.agg #[.int .i64 y.2.1,.int .i64 y.2.2.1,.int .i64 y.2.2.2]) rfl (yields_rg (by rfl) 40 _ rfl gm (om+k * 4+1) rfl #[.int .i64 y.2.1,.int .i64 y.2.2.1,.int .i64 y.2.2.2] _ (fun W hW=>by have h9:=range_part (HMy.out W hW) 1 3;exact h9) Tryz.underlying40 rfl (by kernel_rfl)) hS0 ?_
          try simp only [Act.put,tZ]
          refine wpAnyH_ready (rs:=[10]) (by kernel_rfl) (by simp) ?_
          refine AllReadyH.cons rfl (fun K hK=>?_) AllReadyH.nil
          go_simp
          refine (KT.out _).mono ?_
          rintro e y5 ⟨rfl,hb5⟩
          rw [HF2.out]
          go_simp
          refine hK.out _ _ (hS0.trans (hb5.mono (Below.size hS0))) (fun hS1=>?_)
          clear hK K
          try simp only [Act.put,tZ]
          refine wU (i:=11) (v:=?_) rfl ?_ hS1 ?_
          rotate_left
          ·intro W _;go_simp;try with_reducible rfl
          try simp only [Act.put,tZ]
          refine wU (i:=12) (v:=?_) rfl ?_ hS1 ?_
          rotate_left
          ·intro W _;go_simp;try with_reducible rfl
          try simp only [Act.put,tZ]
          refine wpAnyH_done (by kernel_rfl) ?_ _
          have HBG:=Lib.hid hS1
          go_wp2_with fail
          go_round
          case rel=>exact ⟨k+1,hlt,by go_num,HBX.out.trans (HBG.out.mono HBX.out.size)⟩
          case measure=>simp [intOf];omega
         ·simp only [if_pos,Region.wanted]
          refine rcell_op rfl ?_
          intro pr ya hpr hZ hbl
          have HZ:=Lib.hid hZ
          have HPR:Hid (wr.heap.size<=pr):=by rw [hpr];exact hS0.size
          clear hpr hZ
          refine hK.out _ _ (hS0.trans (hbl.mono (Below.size hS0))) (fun hS1=>?_)
          clear hK K
          try simp only [Act.put,tZ]
          refine wpAnyH_ready (rs:=[8]) (by kernel_rfl) (by simp) ?_
          refine AllReadyH.cons rfl (fun K hK=>?_) AllReadyH.nil
          go_simp
          refine (KU.out _ (HBK.out.trans (hS1.mono HBK.out.size))).mono ?_
          rintro e y1 ⟨rfl,hb1⟩
          have HZ2:=Lib.hid (HZ.out.later hb1);clear HZ;have HZ:=HZ2;clear HZ2
          go_simp
          refine hK.out _ _ (hS1.trans (hb1.mono (Below.size hS1))) (fun hS2=>?_)
          clear hK K
          try simp only [Act.put,tZ]
          refine wU (i:=9) (v:=?_) rfl ?_ hS2 ?_
          rotate_left
          ·intro W _;go_simp;try with_reducible rfl
          try simp only [Act.put,tZ]
          refine wU (i:=10) (v:=?_) rfl ?_ hS2 ?_
          rotate_left
          ·intro W _;go_simp;try with_reducible rfl
          try simp only [Act.put,tZ]
          refine wU (i:=11) (v:=?_) rfl ?_ hS2 ?_
          rotate_left
          ·intro W _;go_simp;try with_reducible rfl
          try simp only [Act.put,tZ]
          refine wpAnyH_ready (rs:=[13]) (by kernel_rfl) (by simp) ?_
          refine AllReadyH.cons rfl (fun K hK=>?_) AllReadyH.nil
          simp only [if_pos,Region.wanted]
          refine store_bk_op 40 (.tmp 12) (.tmp 96) rfl pr 0 #[.int .i64 fa,.int .i64 fb,.int .i64 fc] rfl rfl 40 #[.int .i64 0,.int .i64 0,.int .i64 0] #[.int .i64 fa,.int .i64 fb,.int .i64 fc] HZ.out (by kernel_rfl) (by simp) (by kernel_rfl) rfl ?_
          intro yz hX hgr hs9
          clear HZ
          have HZ:=Lib.hid hX
          clear hX hs9
          refine hK.out _ _ ((hS2).grown hgr (Below.size hS2) (fun k e=>by injection e with e;subst e;exact HPR.out)) (fun hS3=>?_)
          clear hK K
          try simp only [Act.put,tZ]
          refine wU (i:=14) (v:=?_) rfl ?_ hS3 ?_
          rotate_left
          ·intro W _;go_simp;try with_reducible rfl
          try simp only [Act.put,tZ]
          refine wpAnyH_done (by kernel_rfl) ?_ _
          have HBF:=Lib.hid hS3
          go_wp2_with fail
          have HBX:Hid (Below wx.heap.size wx yz):=HBK.out.trans (HBF.out.mono HBK.out.size)
          have HMy:Hid (∀ W,Below yz.heap.size yz W->W.rangeAt gm (om+k * 4) y.arr.toList):=fun W hW=>range_keep (range_keep HMt.out.rg HBF.out) hW
          refine wp_region_held_drew (S:=fun W=>Below yz.heap.size yz W) (by kernel_rfl) (Below.drew (Below.refl _ _)) (fun hS0=>?_)
          refine wU (i:=0) (v:=?_) rfl ?_ hS0 ?_
          rotate_left
          ·intro W _;go_simp;try with_reducible rfl
          try simp only [Act.put,tD,tB,tA,tE,tF]
          refine wU (i:=1) (v:=?_) rfl ?_ hS0 ?_
          rotate_left
          ·intro W _;go_simp;try with_reducible rfl
          try simp only [Act.put,tZ]
          refine wU (i:=2) (v:=?_) rfl ?_ hS0 ?_
          rotate_left
          ·intro W _;go_simp;try with_reducible rfl
          try simp only [Act.put,tZ]
          refine wT (i:=3) (v:=.agg #[.int .i64 fa,.int .i64 fb,.int .i64 fc]) rfl (yields_bk (by rfl) 40 _ rfl pr 0 rfl 40 #[.int .i64 fa,.int .i64 fb,.int .i64 fc] #[.int .i64 fa,.int .i64 fb,.int .i64 fc] _ (fun W hW=>HZ.out.later hW) (Part.whole _) Tryz.underlying40 rfl (by kernel_rfl)) hS0 ?_
          try simp only [Act.put,tZ]
          refine wU (i:=4) (v:=?_) rfl ?_ hS0 ?_
          rotate_left
          ·intro W _;go_simp;try with_reducible rfl
          try simp only [Act.put,tZ]
          refine wU (i:=5) (v:=?_) rfl ?_ hS0 ?_
          rotate_left
          ·intro W hSW;have c3:=(HB7n.out.later (HBX.out.trans (hSW.mono HBX.out.size))).cellAt 3;go_simp;try with_reducible rfl
          try simp only [Act.put,tZ]
          refine wU (i:=6) (v:=?_) rfl ?_ hS0 ?_
          rotate_left
          ·intro W _;go_simp;try with_reducible rfl
          try simp only [Act.put,tZ]
          refine wU (i:=7) (v:=?_) rfl ?_ hS0 ?_
          rotate_left
          ·intro W _;go_simp;try with_reducible rfl
          try simp only [Act.put,tZ]
          refine wU (i:=8) (v:=?_) rfl ?_ hS0 ?_
          rotate_left
          ·intro W _;go_simp;try with_reducible rfl
          try simp only [Act.put,tZ]
          refine wT (i:=9) (v:=.agg #[.int .i64 y.2.1,.int .i64 y.2.2.1,.int .i64 y.2.2.2]) rfl (yields_rg (by rfl) 40 _ rfl gm (om+k * 4+1) rfl #[.int .i64 y.2.1,.int .i64 y.2.2.1,.int .i64 y.2.2.2] _ (fun W hW=>by have h9:=range_part (HMy.out W hW) 1 3;exact h9) Tryz.underlying40 rfl (by kernel_rfl)) hS0 ?_
          try simp only [Act.put,tZ]
          refine wpAnyH_ready (rs:=[10]) (by kernel_rfl) (by simp) ?_
          refine AllReadyH.cons rfl (fun K hK=>?_) AllReadyH.nil
          go_simp
          refine (KT.out _).mono ?_
          rintro e y5 ⟨rfl,hb5⟩
          rw [HF2.out]
          go_simp
          refine hK.out _ _ (hS0.trans (hb5.mono (Below.size hS0))) (fun hS1=>?_)
          clear hK K
          try simp only [Act.put,tZ]
          refine wU (i:=11) (v:=?_) rfl ?_ hS1 ?_
          rotate_left
          ·intro W _;go_simp;try with_reducible rfl
          try simp only [Act.put,tZ]
          refine wU (i:=12) (v:=?_) rfl ?_ hS1 ?_
          rotate_left
          ·intro W _;go_simp;try with_reducible rfl
          try simp only [Act.put,tZ]
          refine wpAnyH_done (by kernel_rfl) ?_ _
          have HBG:=Lib.hid hS1
          go_wp2_with fail
          go_round
          case rel=>exact ⟨k+1,hlt,by go_num,HBX.out.trans (HBG.out.mono HBX.out.size)⟩
          case measure=>simp [intOf];omega
        ·have HTe:=Lib.hid (HTn.out.below HBK.out)
         clear hk HBK HTn
         have hN150:=HN150.out
         go_wp2_with fail
         go_round
         case rel=>exact ⟨i+1,F6,(stF S x.v).1,hin,by go_num,by rw [HMI.out];exact HTe.out,HRN⟩
         case measure=>simp [intOf];omega
    ·have h0':((er:Int) == 0)=false:=by simpa using h0
     have h0n:((er:Int) != 0)=true:=by simpa using h0
     obtain ⟨hn1,hSS⟩:=HER.out h0
     have HSS:Hid (Ta.bare=Tb.bare):=by show Ta.bare=Tb.bare;rw [HBa.out,HBb.out,hSS]
     have hn1':n1=0:=hn1
     subst hn1'
     have c61:wc.cell? ⟨p6,1,none⟩=some (.slice A1 0 c1):=HB6c.out.cellAt 1
     clear h0 hSS hn1
     go_wp2_with (first | (with_reducible refine load_bk rfl 31 _ rfl p5 0 rfl 31 (⟨ck0,nx0,A0,N0,cA0,B0',K0,cB0,C0,n0,cC0⟩:Sv).arr (⟨ck0,nx0,A0,N0,cA0,B0',K0,cB0,C0,n0,cC0⟩:Sv).arr _ HB5c.out (Part.whole _) Tryz.underlying31 rfl (by kernel_rfl) ?_) | (with_reducible refine load_bk rfl 31 _ rfl p7 0 rfl 31 (⟨ck8,nx8,A8,N8,cA8,B8,K8,cB8,C8,n8,cC8⟩:Sv).arr (⟨ck8,nx8,A8,N8,cA8,B8,K8,cB8,C8,n8,cC8⟩:Sv).arr _ HB7c.out (Part.whole _) Tryz.underlying31 rfl (by kernel_rfl) ?_))
     refine (same15_yes (⟨ck0,nx0,A0,N0,cA0,B0',K0,cB0,C0,n0,cC0⟩:Sv) (⟨ck8,nx8,A8,N8,cA8,B8,K8,cB8,C8,n8,cC8⟩:Sv) Ta Tb wc HSac HSbc HSS.out).mono ?_
     rintro e wd ⟨rfl,hbd⟩
     have HTn:=Lib.hid (HTc.out.below hbd)
     have HB7n:=Lib.hid (HB7c.out.later hbd)
     have HSn:=Lib.hid (HSbc.out.later hbd)
     clear hbd c60 c61
     obtain ⟨wx,hwx⟩:∃ W,W=wd:=⟨_,rfl⟩
     rw [<- hwx] at HTn HB7n HSn ⊢
     clear hwx
     have HRb:Hid (Rg Tb):=HRN.out.alike HBb.out
     have HIb:Hid (In2 (1001000 * (i:Int)+1001000) Tb):=HTn.out.i1.alike HBb.out
     have HN8:Hid (N8=Tb.M.length):=HSn.out.N
     have HK8:Hid (K8=Tb.Q.length):=HSn.out.K
     have Hn8:Hid (n8=Tb.J.length):=HSn.out.n
     have hN8:N8<=16:=by rw [HN8.out];exact HIb.out.M
     have hK8:K8<=8:=by rw [HK8.out];exact HIb.out.Q
     have hn8:n8<=48:=by rw [Hn8.out];exact HIb.out.J
     have d1:N8<=cA8:=HSn.out.cA
     have d2:cA8<=9223372036854775807:=HSn.out.cA2
     have d3:K8<=cB8:=HSn.out.cB
     have d4:cB8<=9223372036854775807:=HSn.out.cB2
     have d5:n8<=cC8:=HSn.out.cC
     have d6:cC8<=9223372036854775807:=HSn.out.cC2
     have c72:wx.cell? ⟨p7,2,none⟩=some (.slice A8 N8 cA8):=HB7n.out.cellAt 2
     go_wp2_with fail
     clear c72
     go_loopw [63] (fun s63 wr=>∃ k:Nat,k<=N8/\s63 = .int .i64 k/\Hid (Below wx.heap.size wx wr)) (fun s63 wr=>N8 - (intOf s63).toNat)
     case atStart=>exact ⟨0,Nat.zero_le _,rfl,Below.refl _ _⟩
     case round=>
      obtain ⟨k,hk,rfl,HBK⟩:=hrel
      by_cases hlt:k<N8
      ·have hkl:k<Tb.M.length:=by rw [<- HN8.out];exact hlt
       obtain ⟨gm,om,hA2,hgm,hmm⟩:=(HSn.out.M.later HBK.out).at (i:=k) (by simpa [mcs] using hkl)
       rw [mcs_at hkl] at hmm
       obtain ⟨y,hy⟩:∃ y,y=Tb.M[k]:=⟨_,rfl⟩
       rw [<- hy] at hmm
       have HMt:=Lib.hid hmm
       obtain ⟨fa,fb,fc,fe,hfe⟩:∃ a b c e,freM y.1 (jbs Tb.J)=(a,b,c,e):=⟨_,_,_,_,rfl⟩
       have hf0:=HRb.out.free y (by rw [hy];exact List.getElem_mem hkl)
       rw [hfe] at hf0
       have hf1:fe=0:=hf0
       subst hf1
       have KF:=Lib.hid (fun (W:World)(h:Below wx.heap.size wx W)=>freeM_any y.1 C8 n8 cC8 (jbs Tb.J) W (Lib.hid (by rw [Hn8.out,jbs_length])) (by omega) (Lib.hid (HSn.out.J.later h)) fa fb fc 0 (Lib.hid hfe))
       change A8=some ⟨gm,om,none⟩ at hA2
       subst hA2
       have hkk:(k:Int)<(N8:Int):=Int.ofNat_lt.2 hlt
       have HGM:=Lib.hid hgm
       clear hmm hy hf0 hfe hkl
       go_wp2_with fail
       refine wp_region_held_drew (S:=fun W=>Below wr.heap.size wr W) (by kernel_rfl) (Below.drew (Below.refl _ _)) (fun hS0=>?_)
       refine wU (i:=0) (v:=?_) rfl ?_ hS0 ?_
       rotate_left
       ·intro W _;go_simp;try with_reducible rfl
       try simp only [Act.put,tD,tB,tA,tE,tF]
       refine wU (i:=1) (v:=?_) rfl ?_ hS0 ?_
       rotate_left
       ·intro W hSW;have c2:=(HB7n.out.later (HBK.out.trans (hSW.mono HBK.out.size))).cellAt 2;go_simp;try with_reducible rfl
       try simp only [Act.put,tZ]
       refine wU (i:=2) (v:=?_) rfl ?_ hS0 ?_
       rotate_left
       ·intro W _;go_simp;try with_reducible rfl
       try simp only [Act.put,tZ]
       refine wU (i:=3) (v:=?_) rfl ?_ hS0 ?_
       rotate_left
       ·intro W _;go_simp;try with_reducible rfl
       try simp only [Act.put,tZ]
       refine wT (i:=4) (v:=.agg y.1.arr) rfl (yields_rg (by rfl) 60 _ rfl gm (om+k * 7) rfl y.1.arr _ (fun W hW=>range_keep HMt.out.rg hW) Tryz.underlying60 rfl (by kernel_rfl)) hS0 ?_
       try simp only [Act.put,tZ]
       refine wU (i:=5) (v:=?_) rfl ?_ hS0 ?_
       rotate_left
       ·intro W _;go_simp;try with_reducible rfl
       try simp only [Act.put,tZ]
       refine wU (i:=6) (v:=?_) rfl ?_ hS0 ?_
       rotate_left
       ·intro W hSW;have c4:=(HB7n.out.later (HBK.out.trans (hSW.mono HBK.out.size))).cellAt 4;go_simp;try with_reducible rfl
       try simp only [Act.put,tZ]
       refine wpAnyH_ready (rs:=[7,11]) (by kernel_rfl) (by simp) ?_
       refine (AllReadyH.cons rfl (fun K hK=>?_) (AllReadyH.cons rfl (fun K hK=>?_) AllReadyH.nil))
       ·go_simp
        refine (KF.out _ (HBK.out.trans (hS0.mono HBK.out.size))).mono ?_
        rintro e y1 ⟨rfl,hb1⟩
        skip
        go_simp
        refine hK.out _ _ (hS0.trans (hb1.mono (Below.size hS0))) (fun hS1=>?_)
        clear hK K
        try simp only [Act.put,tZ]
        refine wU (i:=8) (v:=?_) rfl ?_ hS1 ?_
        rotate_left
        ·intro W _;go_simp;try with_reducible rfl
        try simp only [Act.put,tZ]
        refine wU (i:=9) (v:=?_) rfl ?_ hS1 ?_
        rotate_left
        ·intro W _;go_simp;try with_reducible rfl
        try simp only [Act.put,tZ]
        refine wU (i:=10) (v:=?_) rfl ?_ hS1 ?_
        rotate_left
        ·intro W _;go_simp;try with_reducible rfl
        try simp only [Act.put,tZ]
        refine wpAnyH_ready (rs:=[11]) (by kernel_rfl) (by simp) ?_
        refine AllReadyH.cons rfl (fun K hK=>?_) AllReadyH.nil
        simp only [if_pos,Region.wanted]
        refine rcell_op rfl ?_
        intro pr ya hpr hZ hbl
        have HZ:=Lib.hid hZ
        have HPR:Hid (wr.heap.size<=pr):=by rw [hpr];exact hS1.size
        clear hpr hZ
        refine hK.out _ _ (hS1.trans (hbl.mono (Below.size hS1))) (fun hS2=>?_)
        clear hK K
        try simp only [Act.put,tZ]
        refine wpAnyH_ready (rs:=[12]) (by kernel_rfl) (by simp) ?_
        refine AllReadyH.cons rfl (fun K hK=>?_) AllReadyH.nil
        simp only [if_pos,Region.wanted]
        refine store_bk_op 40 (.tmp 9) (.tmp 75) rfl pr 0 #[.int .i64 fa,.int .i64 fb,.int .i64 fc] rfl rfl 40 #[.int .i64 0,.int .i64 0,.int .i64 0] #[.int .i64 fa,.int .i64 fb,.int .i64 fc] HZ.out (by kernel_rfl) (by simp) (by kernel_rfl) rfl ?_
        intro yz hX hgr hs9
        clear HZ
        have HZ:=Lib.hid hX
        clear hX hs9
        refine hK.out _ _ ((hS2).grown hgr (Below.size hS2) (fun k e=>by injection e with e;subst e;exact HPR.out)) (fun hS3=>?_)
        clear hK K
        try simp only [Act.put,tZ]
        refine wU (i:=13) (v:=?_) rfl ?_ hS3 ?_
        rotate_left
        ·intro W _;go_simp;try with_reducible rfl
        try simp only [Act.put,tZ]
        refine wpAnyH_done (by kernel_rfl) ?_ _
        have HBF:=Lib.hid hS3
        go_wp2_with fail
        go_round
        case rel=>exact ⟨k+1,hlt,by go_num,HBK.out.trans (HBF.out.mono HBK.out.size)⟩
        case measure=>simp [intOf];omega
       ·simp only [if_pos,Region.wanted]
        refine rcell_op rfl ?_
        intro pr ya hpr hZ hbl
        have HZ:=Lib.hid hZ
        have HPR:Hid (wr.heap.size<=pr):=by rw [hpr];exact hS0.size
        clear hpr hZ
        refine hK.out _ _ (hS0.trans (hbl.mono (Below.size hS0))) (fun hS1=>?_)
        clear hK K
        try simp only [Act.put,tZ]
        refine wpAnyH_ready (rs:=[7]) (by kernel_rfl) (by simp) ?_
        refine AllReadyH.cons rfl (fun K hK=>?_) AllReadyH.nil
        go_simp
        refine (KF.out _ (HBK.out.trans (hS1.mono HBK.out.size))).mono ?_
        rintro e y1 ⟨rfl,hb1⟩
        have HZ2:=Lib.hid (HZ.out.later hb1);clear HZ;have HZ:=HZ2;clear HZ2
        go_simp
        refine hK.out _ _ (hS1.trans (hb1.mono (Below.size hS1))) (fun hS2=>?_)
        clear hK K
        try simp only [Act.put,tZ]
        refine wU (i:=8) (v:=?_) rfl ?_ hS2 ?_
        rotate_left
        ·intro W _;go_simp;try with_reducible rfl
        try simp only [Act.put,tZ]
        refine wU (i:=9) (v:=?_) rfl ?_ hS2 ?_
        rotate_left
        ·intro W _;go_simp;try with_reducible rfl
        try simp only [Act.put,tZ]
        refine wU (i:=10) (v:=?_) rfl ?_ hS2 ?_
        rotate_left
        ·intro W _;go_simp;try with_reducible rfl
        try simp only [Act.put,tZ]
        refine wpAnyH_ready (rs:=[12]) (by kernel_rfl) (by simp) ?_
        refine AllReadyH.cons rfl (fun K hK=>?_) AllReadyH.nil
        simp only [if_pos,Region.wanted]
        refine store_bk_op 40 (.tmp 9) (.tmp 75) rfl pr 0 #[.int .i64 fa,.int .i64 fb,.int .i64 fc] rfl rfl 40 #[.int .i64 0,.int .i64 0,.int .i64 0] #[.int .i64 fa,.int .i64 fb,.int .i64 fc] HZ.out (by kernel_rfl) (by simp) (by kernel_rfl) rfl ?_
        intro yz hX hgr hs9
        clear HZ
        have HZ:=Lib.hid hX
        clear hX hs9
        refine hK.out _ _ ((hS2).grown hgr (Below.size hS2) (fun k e=>by injection e with e;subst e;exact HPR.out)) (fun hS3=>?_)
        clear hK K
        try simp only [Act.put,tZ]
        refine wU (i:=13) (v:=?_) rfl ?_ hS3 ?_
        rotate_left
        ·intro W _;go_simp;try with_reducible rfl
        try simp only [Act.put,tZ]
        refine wpAnyH_done (by kernel_rfl) ?_ _
        have HBF:=Lib.hid hS3
        go_wp2_with fail
        go_round
        case rel=>exact ⟨k+1,hlt,by go_num,HBK.out.trans (HBF.out.mono HBK.out.size)⟩
        case measure=>simp [intOf];omega
      ·have c73:wr.cell? ⟨p7,3,none⟩=some (.slice B8 K8 cB8):=(HB7n.out.later HBK.out).cellAt 3
       go_wp2_with fail
       clear c73
       go_loopw [83] (fun s83 wr=>∃ k:Nat,k<=K8/\s83 = .int .i64 k/\Hid (Below wx.heap.size wx wr)) (fun s83 wr=>K8 - (intOf s83).toNat)
       case atStart=>exact ⟨0,Nat.zero_le _,rfl,HBK⟩
       case round=>
        clear HBK hk hlt
        obtain ⟨k,hk,rfl,HBK⟩:=hrel
        by_cases hlt:k<K8
        ·skip
         have hkl:k<Tb.Q.length:=by rw [<- HK8.out];exact hlt
         obtain ⟨gm,om,hA2,hgm,hmm⟩:=(HSn.out.Q.later HBK.out).at (i:=k) hkl
         obtain ⟨y,hy⟩:∃ y,y=Tb.Q[k]:=⟨_,rfl⟩
         rw [<- hy] at hmm
         have HMt:=Lib.hid hmm
         obtain ⟨fa,fb,fc,fe,hfe⟩:∃ a b c e,usdJ y.1 Tb.J=(a,b,c,e):=⟨_,_,_,_,rfl⟩
         have hf0:=HRb.out.used y (by rw [hy];exact List.getElem_mem hkl)
         rw [hfe] at hf0
         obtain ⟨hf1,hf2⟩:=hf0
         have hf3:fe=0:=hf1
         subst hf3
         have HF2:Hid (fB fa fb fc y.2.1 y.2.2.1 y.2.2.2=true):=hf2
         have KU:=Lib.hid (fun (W:World)(h:Below wx.heap.size wx W)=>used_any C8 n8 cC8 (jbs Tb.J) y.1 W (Lib.hid (by rw [Hn8.out,jbs_length])) (by omega) (Lib.hid (HSn.out.J.later h)) fa fb fc 0 (Lib.hid hfe))
         have KT:=Lib.hid (fun (W:World)=>fits_any fa fb fc y.2.1 y.2.2.1 y.2.2.2 W)
         change B8=some ⟨gm,om,none⟩ at hA2
         subst hA2
         have hkk:(k:Int)<(K8:Int):=Int.ofNat_lt.2 hlt
         have HGM:=Lib.hid hgm
         clear hmm hy hf1 hf2 hfe hkl
         go_wp2_with fail
         refine wp_region_held_drew (S:=fun W=>Below wr.heap.size wr W) (by kernel_rfl) (Below.drew (Below.refl _ _)) (fun hS0=>?_)
         refine wU (i:=0) (v:=?_) rfl ?_ hS0 ?_
         rotate_left
         ·intro W _;go_simp;try with_reducible rfl
         try simp only [Act.put,tD,tB,tA,tE,tF]
         refine wU (i:=1) (v:=?_) rfl ?_ hS0 ?_
         rotate_left
         ·intro W hSW;have c4:=(HB7n.out.later (HBK.out.trans (hSW.mono HBK.out.size))).cellAt 4;go_simp;try with_reducible rfl
         try simp only [Act.put,tZ]
         refine wU (i:=2) (v:=?_) rfl ?_ hS0 ?_
         rotate_left
         ·intro W _;go_simp;try with_reducible rfl
         try simp only [Act.put,tZ]
         refine wU (i:=3) (v:=?_) rfl ?_ hS0 ?_
         rotate_left
         ·intro W hSW;have c3:=(HB7n.out.later (HBK.out.trans (hSW.mono HBK.out.size))).cellAt 3;go_simp;try with_reducible rfl
         try simp only [Act.put,tZ]
         refine wU (i:=4) (v:=?_) rfl ?_ hS0 ?_
         rotate_left
         ·intro W _;go_simp;try with_reducible rfl
         try simp only [Act.put,tZ]
         refine wU (i:=5) (v:=?_) rfl ?_ hS0 ?_
         rotate_left
         ·intro W _;go_simp;try with_reducible rfl
         try simp only [Act.put,tZ]
         refine wU (i:=6) (v:=?_) rfl ?_ hS0 ?_
         rotate_left
         ·intro W _;go_simp;try with_reducible rfl
         try simp only [Act.put,tZ]
         refine wU (i:=7) (v:=?_) rfl ?_ hS0 ?_
         rotate_left
         ·intro W hSW;have c7:W.cell? ⟨gm,om+k * 4,none⟩=some (.string y.1):=range_keep HMt.out.rg hSW 0 _ rfl;go_simp;try with_reducible rfl
         try simp only [Act.put,tZ]
         refine wpAnyH_ready (rs:=[8,12]) (by kernel_rfl) (by simp) ?_
         refine (AllReadyH.cons rfl (fun K hK=>?_) (AllReadyH.cons rfl (fun K hK=>?_) AllReadyH.nil))
         ·go_simp
          refine (KU.out _ (HBK.out.trans (hS0.mono HBK.out.size))).mono ?_
          rintro e y1 ⟨rfl,hb1⟩
          skip
          go_simp
          refine hK.out _ _ (hS0.trans (hb1.mono (Below.size hS0))) (fun hS1=>?_)
          clear hK K
          try simp only [Act.put,tZ]
          refine wU (i:=9) (v:=?_) rfl ?_ hS1 ?_
          rotate_left
          ·intro W _;go_simp;try with_reducible rfl
          try simp only [Act.put,tZ]
          refine wU (i:=10) (v:=?_) rfl ?_ hS1 ?_
          rotate_left
          ·intro W _;go_simp;try with_reducible rfl
          try simp only [Act.put,tZ]
          refine wU (i:=11) (v:=?_) rfl ?_ hS1 ?_
          rotate_left
          ·intro W _;go_simp;try with_reducible rfl
          try simp only [Act.put,tZ]
          refine wpAnyH_ready (rs:=[12]) (by kernel_rfl) (by simp) ?_
          refine AllReadyH.cons rfl (fun K hK=>?_) AllReadyH.nil
          simp only [if_pos,Region.wanted]
          refine rcell_op rfl ?_
          intro pr ya hpr hZ hbl
          have HZ:=Lib.hid hZ
          have HPR:Hid (wr.heap.size<=pr):=by rw [hpr];exact hS1.size
          clear hpr hZ
          refine hK.out _ _ (hS1.trans (hbl.mono (Below.size hS1))) (fun hS2=>?_)
          clear hK K
          try simp only [Act.put,tZ]
          refine wpAnyH_ready (rs:=[13]) (by kernel_rfl) (by simp) ?_
          refine AllReadyH.cons rfl (fun K hK=>?_) AllReadyH.nil
          simp only [if_pos,Region.wanted]
          refine store_bk_op 40 (.tmp 12) (.tmp 96) rfl pr 0 #[.int .i64 fa,.int .i64 fb,.int .i64 fc] rfl rfl 40 #[.int .i64 0,.int .i64 0,.int .i64 0] #[.int .i64 fa,.int .i64 fb,.int .i64 fc] HZ.out (by kernel_rfl) (by simp) (by kernel_rfl) rfl ?_
          intro yz hX hgr hs9
          clear HZ
          have HZ:=Lib.hid hX
          clear hX hs9
          refine hK.out _ _ ((hS2).grown hgr (Below.size hS2) (fun k e=>by injection e with e;subst e;exact HPR.out)) (fun hS3=>?_)
          clear hK K
          try simp only [Act.put,tZ]
          refine wU (i:=14) (v:=?_) rfl ?_ hS3 ?_
          rotate_left
          ·intro W _;go_simp;try with_reducible rfl
          try simp only [Act.put,tZ]
          refine wpAnyH_done (by kernel_rfl) ?_ _
          have HBF:=Lib.hid hS3
          go_wp2_with fail
          have HBX:Hid (Below wx.heap.size wx yz):=HBK.out.trans (HBF.out.mono HBK.out.size)
          have HMy:Hid (∀ W,Below yz.heap.size yz W->W.rangeAt gm (om+k * 4) y.arr.toList):=fun W hW=>range_keep (range_keep HMt.out.rg HBF.out) hW
          refine wp_region_held_drew (S:=fun W=>Below yz.heap.size yz W) (by kernel_rfl) (Below.drew (Below.refl _ _)) (fun hS0=>?_)
          refine wU (i:=0) (v:=?_) rfl ?_ hS0 ?_
          rotate_left
          ·intro W _;go_simp;try with_reducible rfl
          try simp only [Act.put,tD,tB,tA,tE,tF]
          refine wU (i:=1) (v:=?_) rfl ?_ hS0 ?_
          rotate_left
          ·intro W _;go_simp;try with_reducible rfl
          try simp only [Act.put,tZ]
          refine wU (i:=2) (v:=?_) rfl ?_ hS0 ?_
          rotate_left
          ·intro W _;go_simp;try with_reducible rfl
          try simp only [Act.put,tZ]
          refine wT (i:=3) (v:=.agg #[.int .i64 fa,.int .i64 fb,.int .i64 fc]) rfl (yields_bk (by rfl) 40 _ rfl pr 0 rfl 40 #[.int .i64 fa,.int .i64 fb,.int .i64 fc] #[.int .i64 fa,.int .i64 fb,.int .i64 fc] _ (fun W hW=>HZ.out.later hW) (Part.whole _) Tryz.underlying40 rfl (by kernel_rfl)) hS0 ?_
          try simp only [Act.put,tZ]
          refine wU (i:=4) (v:=?_) rfl ?_ hS0 ?_
          rotate_left
          ·intro W _;go_simp;try with_reducible rfl
          try simp only [Act.put,tZ]
          refine wU (i:=5) (v:=?_) rfl ?_ hS0 ?_
          rotate_left
          ·intro W hSW;have c3:=(HB7n.out.later (HBX.out.trans (hSW.mono HBX.out.size))).cellAt 3;go_simp;try with_reducible rfl
          try simp only [Act.put,tZ]
          refine wU (i:=6) (v:=?_) rfl ?_ hS0 ?_
          rotate_left
          ·intro W _;go_simp;try with_reducible rfl
          try simp only [Act.put,tZ]
          refine wU (i:=7) (v:=?_) rfl ?_ hS0 ?_
          rotate_left
          ·intro W _;go_simp;try with_reducible rfl
          try simp only [Act.put,tZ]
          refine wU (i:=8) (v:=?_) rfl ?_ hS0 ?_
          rotate_left
          ·intro W _;go_simp;try with_reducible rfl
          try simp only [Act.put,tZ]
          refine wT (i:=9) (v:=.agg #[.int .i64 y.2.1,.int .i64 y.2.2.1,.int .i64 y.2.2.2]) rfl (yields_rg (by rfl) 40 _ rfl gm (om+k * 4+1) rfl #[.int .i64 y.2.1,.int .i64 y.2.2.1,.int .i64 y.2.2.2] _ (fun W hW=>by have h9:=range_part (HMy.out W hW) 1 3;exact h9) Tryz.underlying40 rfl (by kernel_rfl)) hS0 ?_
          try simp only [Act.put,tZ]
          refine wpAnyH_ready (rs:=[10]) (by kernel_rfl) (by simp) ?_
          refine AllReadyH.cons rfl (fun K hK=>?_) AllReadyH.nil
          go_simp
          refine (KT.out _).mono ?_
          rintro e y5 ⟨rfl,hb5⟩
          rw [HF2.out]
          go_simp
          refine hK.out _ _ (hS0.trans (hb5.mono (Below.size hS0))) (fun hS1=>?_)
          clear hK K
          try simp only [Act.put,tZ]
          refine wU (i:=11) (v:=?_) rfl ?_ hS1 ?_
          rotate_left
          ·intro W _;go_simp;try with_reducible rfl
          try simp only [Act.put,tZ]
          refine wU (i:=12) (v:=?_) rfl ?_ hS1 ?_
          rotate_left
          ·intro W _;go_simp;try with_reducible rfl
          try simp only [Act.put,tZ]
          refine wpAnyH_done (by kernel_rfl) ?_ _
          have HBG:=Lib.hid hS1
          go_wp2_with fail
          go_round
          case rel=>exact ⟨k+1,hlt,by go_num,HBX.out.trans (HBG.out.mono HBX.out.size)⟩
          case measure=>simp [intOf];omega
         ·simp only [if_pos,Region.wanted]
          refine rcell_op rfl ?_
          intro pr ya hpr hZ hbl
          have HZ:=Lib.hid hZ
          have HPR:Hid (wr.heap.size<=pr):=by rw [hpr];exact hS0.size
          clear hpr hZ
          refine hK.out _ _ (hS0.trans (hbl.mono (Below.size hS0))) (fun hS1=>?_)
          clear hK K
          try simp only [Act.put,tZ]
          refine wpAnyH_ready (rs:=[8]) (by kernel_rfl) (by simp) ?_
          refine AllReadyH.cons rfl (fun K hK=>?_) AllReadyH.nil
          go_simp
          refine (KU.out _ (HBK.out.trans (hS1.mono HBK.out.size))).mono ?_
          rintro e y1 ⟨rfl,hb1⟩
          have HZ2:=Lib.hid (HZ.out.later hb1);clear HZ;have HZ:=HZ2;clear HZ2
          go_simp
          refine hK.out _ _ (hS1.trans (hb1.mono (Below.size hS1))) (fun hS2=>?_)
          clear hK K
          try simp only [Act.put,tZ]
          refine wU (i:=9) (v:=?_) rfl ?_ hS2 ?_
          rotate_left
          ·intro W _;go_simp;try with_reducible rfl
          try simp only [Act.put,tZ]
          refine wU (i:=10) (v:=?_) rfl ?_ hS2 ?_
          rotate_left
          ·intro W _;go_simp;try with_reducible rfl
          try simp only [Act.put,tZ]
          refine wU (i:=11) (v:=?_) rfl ?_ hS2 ?_
          rotate_left
          ·intro W _;go_simp;try with_reducible rfl
          try simp only [Act.put,tZ]
          refine wpAnyH_ready (rs:=[13]) (by kernel_rfl) (by simp) ?_
          refine AllReadyH.cons rfl (fun K hK=>?_) AllReadyH.nil
          simp only [if_pos,Region.wanted]
          refine store_bk_op 40 (.tmp 12) (.tmp 96) rfl pr 0 #[.int .i64 fa,.int .i64 fb,.int .i64 fc] rfl rfl 40 #[.int .i64 0,.int .i64 0,.int .i64 0] #[.int .i64 fa,.int .i64 fb,.int .i64 fc] HZ.out (by kernel_rfl) (by simp) (by kernel_rfl) rfl ?_
          intro yz hX hgr hs9
          clear HZ
          have HZ:=Lib.hid hX
          clear hX hs9
          refine hK.out _ _ ((hS2).grown hgr (Below.size hS2) (fun k e=>by injection e with e;subst e;exact HPR.out)) (fun hS3=>?_)
          clear hK K
          try simp only [Act.put,tZ]
          refine wU (i:=14) (v:=?_) rfl ?_ hS3 ?_
          rotate_left
          ·intro W _;go_simp;try with_reducible rfl
          try simp only [Act.put,tZ]
          refine wpAnyH_done (by kernel_rfl) ?_ _
          have HBF:=Lib.hid hS3
          go_wp2_with fail
          have HBX:Hid (Below wx.heap.size wx yz):=HBK.out.trans (HBF.out.mono HBK.out.size)
          have HMy:Hid (∀ W,Below yz.heap.size yz W->W.rangeAt gm (om+k * 4) y.arr.toList):=fun W hW=>range_keep (range_keep HMt.out.rg HBF.out) hW
          refine wp_region_held_drew (S:=fun W=>Below yz.heap.size yz W) (by kernel_rfl) (Below.drew (Below.refl _ _)) (fun hS0=>?_)
          refine wU (i:=0) (v:=?_) rfl ?_ hS0 ?_
          rotate_left
          ·intro W _;go_simp;try with_reducible rfl
          try simp only [Act.put,tD,tB,tA,tE,tF]
          refine wU (i:=1) (v:=?_) rfl ?_ hS0 ?_
          rotate_left
          ·intro W _;go_simp;try with_reducible rfl
          try simp only [Act.put,tZ]
          refine wU (i:=2) (v:=?_) rfl ?_ hS0 ?_
          rotate_left
          ·intro W _;go_simp;try with_reducible rfl
          try simp only [Act.put,tZ]
          refine wT (i:=3) (v:=.agg #[.int .i64 fa,.int .i64 fb,.int .i64 fc]) rfl (yields_bk (by rfl) 40 _ rfl pr 0 rfl 40 #[.int .i64 fa,.int .i64 fb,.int .i64 fc] #[.int .i64 fa,.int .i64 fb,.int .i64 fc] _ (fun W hW=>HZ.out.later hW) (Part.whole _) Tryz.underlying40 rfl (by kernel_rfl)) hS0 ?_
          try simp only [Act.put,tZ]
          refine wU (i:=4) (v:=?_) rfl ?_ hS0 ?_
          rotate_left
          ·intro W _;go_simp;try with_reducible rfl
          try simp only [Act.put,tZ]
          refine wU (i:=5) (v:=?_) rfl ?_ hS0 ?_
          rotate_left
          ·intro W hSW;have c3:=(HB7n.out.later (HBX.out.trans (hSW.mono HBX.out.size))).cellAt 3;go_simp;try with_reducible rfl
          try simp only [Act.put,tZ]
          refine wU (i:=6) (v:=?_) rfl ?_ hS0 ?_
          rotate_left
          ·intro W _;go_simp;try with_reducible rfl
          try simp only [Act.put,tZ]
          refine wU (i:=7) (v:=?_) rfl ?_ hS0 ?_
          rotate_left
          ·intro W _;go_simp;try with_reducible rfl
          try simp only [Act.put,tZ]
          refine wU (i:=8) (v:=?_) rfl ?_ hS0 ?_
          rotate_left
          ·intro W _;go_simp;try with_reducible rfl
          try simp only [Act.put,tZ]
          refine wT (i:=9) (v:=.agg #[.int .i64 y.2.1,.int .i64 y.2.2.1,.int .i64 y.2.2.2]) rfl (yields_rg (by rfl) 40 _ rfl gm (om+k * 4+1) rfl #[.int .i64 y.2.1,.int .i64 y.2.2.1,.int .i64 y.2.2.2] _ (fun W hW=>by have h9:=range_part (HMy.out W hW) 1 3;exact h9) Tryz.underlying40 rfl (by kernel_rfl)) hS0 ?_
          try simp only [Act.put,tZ]
          refine wpAnyH_ready (rs:=[10]) (by kernel_rfl) (by simp) ?_
          refine AllReadyH.cons rfl (fun K hK=>?_) AllReadyH.nil
          go_simp
          refine (KT.out _).mono ?_
          rintro e y5 ⟨rfl,hb5⟩
          rw [HF2.out]
          go_simp
          refine hK.out _ _ (hS0.trans (hb5.mono (Below.size hS0))) (fun hS1=>?_)
          clear hK K
          try simp only [Act.put,tZ]
          refine wU (i:=11) (v:=?_) rfl ?_ hS1 ?_
          rotate_left
          ·intro W _;go_simp;try with_reducible rfl
          try simp only [Act.put,tZ]
          refine wU (i:=12) (v:=?_) rfl ?_ hS1 ?_
          rotate_left
          ·intro W _;go_simp;try with_reducible rfl
          try simp only [Act.put,tZ]
          refine wpAnyH_done (by kernel_rfl) ?_ _
          have HBG:=Lib.hid hS1
          go_wp2_with fail
          go_round
          case rel=>exact ⟨k+1,hlt,by go_num,HBX.out.trans (HBG.out.mono HBX.out.size)⟩
          case measure=>simp [intOf];omega
        ·have HTe:=Lib.hid (HTn.out.below HBK.out)
         clear hk HBK HTn
         have hN150:=HN150.out
         go_wp2_with fail
         go_round
         case rel=>exact ⟨i+1,F6,(stF S x.v).1,hin,by go_num,by rw [HMI.out];exact HTe.out,HRN⟩
         case measure=>simp [intOf];omega
   ·skip
    have hie:i=N:=by omega
    clear hi hin
    go_wp2_with fail
    go_ret
    exact ⟨rfl,HT.out.be⟩
end gen1Stands
end
end Go.Proofs.YtccccbofcnmdiaaGreat
