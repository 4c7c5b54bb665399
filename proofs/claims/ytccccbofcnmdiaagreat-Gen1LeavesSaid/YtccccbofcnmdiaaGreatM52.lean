/- Lemmas that the law stands on. No condition. -/
import Derived.Test.YtccccbofcnmdiaaGreatM51
namespace Go.Proofs.YtccccbofcnmdiaaGreat
set_option linter.unusedSimpArgs false
set_option linter.unusedVariables false
set_option maxRecDepth 100000
set_option maxHeartbeats 51200000
section
open Go.RowKit
theorem haltW2 {P:Program} {ops:Array Oper} {rest:List Oper} {a:Act} {w:World} {Q:Exit->Act->World->Prop} (h:Hid (wpList P ops Q rest a w)):wpList P ops Q rest a w:=h.out
theorem rangeSub10 {w:World} {g:Nat} {j:Jb} (h:w.rangeAt g 0 j.arr.toList):w.rangeAt g 0 j.tk.arr.toList:=fun i v hv=>by
 have:=range_part h 0 10
 exact this i v hv
namespace gen1Leaves


theorem walk (B0:Option Addr) (N cap:Nat) (z:List Oz) (w:World) (hn0:N=z.length) (hr0:RdK w 21 B0 (z.map eZ)) (hc1:N<=cap) (hc2:cap<=9223372036854775807) (ho0:∀ x ∈ z,OzOk w x) :
  Calls Tryz.prog 7 #[.slice B0 N cap] w fun r w'=>r = .returned (.bool true)/\Below w.heap.size w w':=by
 have K1:=Lib.hid (fun W=>awake15_any W)
 have K7:=Lib.hid (fun (A:Option Addr) (n c:Nat) (l:List Oz) (W:World) (hn:n=l.length) (hm:n<=9223372036854775807) (hr:RdOps W A l)=>few15_any A n c l W (Lib.hid hn) hm (Lib.hid hr))
 have HN:=Lib.hid hn0
 have HRD:Hid (RdOps w B0 z):=⟨hr0,ho0⟩
 have HNM:Hid (N<=9223372036854775807):=by show _<=_;omega
 have HNC:Hid (N<=cap/\cap<=9223372036854775807):=⟨hc1,hc2⟩
 clear hn0 hr0 ho0 hc1 hc2
 go_enter Tryz.func7,Tryz.ntmps7
 go_wp2_with fail
 refine (K1.out _).mono ?_;rintro e w1 ⟨rfl,hb1⟩
 have HB1:=Lib.hid hb1
 clear hb1
 go_wp2_with fail
 refine (K7.out B0 N cap z _ HN.out HNM.out (HRD.out.later HB1.out)).mono ?_;rintro e w2 ⟨⟨b,rfl,hfew⟩,hb2⟩
 have HB2:=Lib.hid (HB1.out.trans (hb2.mono HB1.out.size))
 clear hb2 HB1 HNM
 cases b with
 | false=>
  go_wp2_with fail
  refine (K1.out _).mono ?_;rintro e w3 ⟨rfl,hb3⟩
  go_wp2_with fail
  go_ret
  exact ⟨rfl,HB2.out.trans (hb3.mono HB2.out.size)⟩
 | true=>
  have HN150:Hid (N<=150):=(hfew rfl).1
  have HSM:Hid (∀ x ∈ z,x.m1<=20/\x.m3<=20):=(hfew rfl).2
  clear hfew
  go_wp2_with fail
  refine (t1_new w w2 HB2.out).mono ?_;rintro e w3 ⟨rfl,hT3⟩
  have HT3:=Lib.hid hT3
  obtain ⟨g,hg⟩:∃ g,g=w2.heap.size:=⟨_,rfl⟩
  rw [<- hg] at HT3 ⊢
  clear hT3 hg HB2
  have HT3':Hid (∃ F,T1 w w3 g F Sg.new 0):=⟨_,HT3.out⟩
  clear HT3
  go_wp2_with fail
  go_loopw [23] (fun s23 wr=>∃ (i:Nat) (F:Nat->Prop) (S:Sg),i<=N/\s23 = .int .i64 i/\Hid (T1 w wr g F S (1001000 * (i:Int)))/\Hid (Led S)) (fun s23 wr=>N - (intOf s23).toNat)
  case atStart=>
   obtain ⟨F,HT⟩:=HT3'.out
   exact ⟨0,F,Sg.new,Nat.zero_le _,rfl,HT,led_new⟩
  case round=>
   clear HT3'
   obtain ⟨i,F,S,hi,rfl,HT,HLD⟩:=hrel
   have hm0:(0:Int)<=1001000 * (i:Int):=Int.mul_nonneg (by decide) (Int.natCast_nonneg i)
   have HMM:Hid (1001000 * (i:Int)<=1152921504606846976):=by show _<=_;have:=HN150.out;omega
   have HM0:=Lib.hid hm0
   clear hm0
   by_cases hin:i<N
   ·skip
    have hil:Hid (i<z.length):=by show i<z.length;rw [<- HN.out];exact hin
    obtain ⟨x,hx⟩:∃ x,x=z[i]'hil.out:=⟨_,rfl⟩
    obtain ⟨q,o,hA,hrg⟩:=HRD.out.rd.at (i:=i) (by rw [List.length_map];exact hil.out)
    rw [List.getElem_map,<- hx] at hrg
    subst hA
    have hxm:x ∈ z:=by rw [hx];exact List.getElem_mem _
    have HOKW:=Lib.hid (HRD.out.ok x hxm)
    have hsm:=HSM.out x hxm
    have HL1:Hid (x.v.l1.length<=1000):=by show _<=_;have:=HOKW.out.l1.len;have:=hsm.1;omega
    have HL3:Hid (x.v.l3.length<=1000):=by show _<=_;have:=HOKW.out.l3.len;have:=hsm.2;omega
    have HRG:Hid (w.rangeAt q (o+i * 21) x.arr.toList):=hrg
    have hii:(i:Int)<(N:Int):=Int.ofNat_lt.2 hin
    have HMI:Hid (1001000 * ((i+1:Nat):Int)=1001000 * (i:Int)+1001000):=by show _=_;omega
    clear hx hrg hxm hsm hil
    go_wp2_with (with_reducible refine load_rg rfl 49 _ rfl q (o+i * 21) rfl x.arr _ (range_keep HRG.out HT.out.be) Tryz.underlying49 rfl (by kernel_rfl) ?_)
    refine (t1_do HT.out HM0.out HMM.out x (HOKW.out.later HT.out.be) HL1.out HL3.out).mono ?_
    rintro e w5 ⟨⟨A1,n1,c1,rfl,hR⟩,hT5,hG5⟩
    have HT5:=Lib.hid hT5
    have HLED:=Lib.hid (step_led HLD.out x.v).1
    clear hR hT5 hG5 HT HLD
    have hN150:=HN150.out
    go_wp2_with fail
    go_round
    case rel=>exact ⟨i+1,_,(stF S x.v).1,hin,by go_num,by rw [HMI.out];exact HT5.out,HLED⟩
    case measure=>simp [intOf];omega
   ·skip
    have hie:i=N:=by omega
    clear hi hin
    go_wp2_with fail
    refine (t1_do HT.out HM0.out HMM.out ozT (ozT_ok _) (by decide) (by decide)).mono ?_
    rintro e w5 ⟨⟨A1,n1,c1,rfl,hR⟩,hT5,hG5⟩
    rw [stF_tick] at hR hT5
    obtain ⟨R,hRd⟩:∃ R,R=tickG bsF chF unF S:=⟨_,rfl⟩
    have HLV:=Lib.hid (fun h0 h1=>tick_leaves HLD.out h0 h1)
    have hER:=tick_err S
    have HAF:Hid (R.2.2.length<=2001000):=by
     show _<=_
     have:=stF_few HT.out.i1 HMM.out ozT.v
     rw [stF_tick,<- hRd] at this
     exact this
    rw [stF_tick,<- hRd]
    rw [<- hRd] at hR hT5 hER HLV
    have HR:=Lib.hid hR;have HT5:=Lib.hid hT5
    obtain ⟨er,her⟩:∃ er,er=R.2.1:=⟨_,rfl⟩
    obtain ⟨acts,hacts⟩:∃ acts,acts=R.2.2:=⟨_,rfl⟩
    have HN1:Hid (n1=acts.length):=by rw [hacts];exact HR.out.1
    have hnb:n1<=2001000:=by rw [HN1.out,hacts];exact HAF.out
    have hc1':n1<=c1:=HR.out.2.2.1
    have hc2':c1<=9223372036854775807:=HR.out.2.2.2.1
    have HRA:Hid (RdA w5 A1 acts):=by rw [hacts];exact HR.out.2.1
    have HBE5:Hid (Below w.heap.size w w5):=HT5.out.be
    have HER:=Lib.hid her;have HAC:=Lib.hid hacts
    rw [<- her] at hER ⊢
    clear hR hT5 hG5 hRd her hacts HT HR HAF
    rcases hER with h0 | h0
    case inr=>
     subst h0
     go_wp2_with (first | ((with_reducible refine store_bk rfl 36 (.tmp 5) (.tmp 35) rfl w5.heap.size 0 #[.int .i64 6,.slice A1 n1 c1] rfl rfl 36 _ #[.int .i64 6,.slice A1 n1 c1] (Bk.fresh _ _ _) (by kernel_rfl) (by simp) (by kernel_rfl) rfl ?_);intro w6 hB6 hg6 hs6;have HL6:Hid (Below w5.heap.size w5 w6):=((Below.refl _ _).alloc (Nat.le_refl _) _).grown hg6 (by simp) (by intro k hk;injection hk with hk;omega);have c60:w6.cell? ⟨w5.heap.size,0,none⟩=some (.int .i64 6):=hB6.cellAt 0;clear hB6 hg6 hs6))
     go_ret
     exact ⟨rfl,HBE5.out.trans (HL6.out.mono HBE5.out.size)⟩
    case inl=>
     subst h0
     go_wp2_with (first | ((with_reducible refine store_bk rfl 36 (.tmp 5) (.tmp 35) rfl w5.heap.size 0 #[.int .i64 0,.slice A1 n1 c1] rfl rfl 36 _ #[.int .i64 0,.slice A1 n1 c1] (Bk.fresh _ _ _) (by kernel_rfl) (by simp) (by kernel_rfl) rfl ?_);intro w6 hB6 hg6 hs6;have HB6:=Lib.hid hB6;have HL6:Hid (Below w5.heap.size w5 w6):=((Below.refl _ _).alloc (Nat.le_refl _) _).grown hg6 (by simp) (by intro k hk;injection hk with hk;omega);have c60:w6.cell? ⟨w5.heap.size,0,none⟩=some (.int .i64 0):=hB6.cellAt 0;have c61:w6.cell? ⟨w5.heap.size,1,none⟩=some (.slice A1 n1 c1):=hB6.cellAt 1;clear hB6 hg6 hs6))
     clear c60 c61
     obtain ⟨p5,hp5⟩:∃ p,p=w5.heap.size:=⟨_,rfl⟩
     rw [<- hp5] at HB6 ⊢
     have HBE6:Hid (Below w.heap.size w w6):=HBE5.out.trans (HL6.out.mono HBE5.out.size)
     have HRA6:Hid (RdA w6 A1 acts):=HRA.out.later HL6.out
     have HT6:=Lib.hid (HT5.out.below HL6.out)
     clear hp5 HRA HBE5 HL6 HT5
     go_loopw [45] (fun s45 wr=>∃ k:Nat,k<=n1/\s45 = .int .i64 k/\Hid (Below w6.heap.size w6 wr)/\Hid (NoEv (acts.take k))) (fun s45 wr=>n1 - (intOf s45).toNat)
     case atStart=>exact ⟨0,Nat.zero_le _,rfl,Below.refl _ _,by intro a ha;cases ha⟩
     case round=>
      obtain ⟨k,hk,rfl,HBK,HNE⟩:=hrel
      have c61:wr.cell? ⟨p5,1,none⟩=some (.slice A1 n1 c1):=(HB6.out.later HBK.out).cellAt 1
      by_cases hlt:k<n1
      ·have hkl:k<acts.length:=by rw [<- HN1.out];exact hlt
       obtain ⟨ga,oa,hA1,hla,d0,d1,d2⟩:=(HRA6.out.later HBK.out).at hkl
       obtain ⟨xk,hxk⟩:∃ y,y=acts[k].1:=⟨_,rfl⟩
       rw [<- hxk] at d0
       subst hA1
       have HLA:=Lib.hid hla
       by_cases h2:xk=2
       ·subst h2
        clear d1 d2 hla hxk
        go_wp2_with fail
        go_ret
        exact ⟨rfl,HBE6.out.trans (HBK.out.mono HBE6.out.size)⟩
       ·have HNE2:Hid (NoEv (acts.take (k+1))):=fun a ha=>by
         rw [List.take_succ_eq_append_getElem hkl] at ha
         rcases List.mem_append.1 ha with h | h
         ·exact HNE.out a h
         ·rw [List.mem_singleton] at h;rw [h,<- hxk];exact h2
        have h2':((xk:Int) == 2)=false:=by simpa using h2
        clear d1 d2 hla hxk HNE
        go_wp2_with fail
        go_round
        case rel=>exact ⟨k+1,hlt,by go_num,HBK,HNE2⟩
        case measure=>simp [intOf];omega
      ·have HNO:Hid (NoEv R.2.2):=by
        have h1:=HNE.out
        rw [show k=acts.length by rw [<- HN1.out];omega,List.take_length,HAC.out] at h1
        exact h1
       have HLV2:=Lib.hid (HLV.out HER.out.symm HNO.out)
       have HTr:=Lib.hid (HT6.out.below HBK.out)
       clear hk HNE c61 HLV HT6 HRA6
       go_wp2_with fail
       refine (t1_state HTr.out).mono ?_
       rintro e w8 ⟨⟨⟨ck,nx,AM,NM,cM,BQ,KQ,cQ,CJ,nJ,cJ⟩,Sa,rfl,hO,hS,hbr,hck,hnx⟩,hb8⟩
       have HS8:=Lib.hid hS
       have HB8:=Lib.hid (HTr.out.be.trans (hb8.mono HTr.out.be.size))
       have HLT:=Lib.hid (leaves_told hbr HLV2.out)
       have HNJ:Hid (nJ=Sa.J.length):=HS8.out.n
       have HNM2:Hid (NM=Sa.M.length):=HS8.out.N
       have hl3:=congrArg List.length (bare_fields hbr).2.2.2.2
       have hl4:=congrArg List.length (bare_fields hbr).2.2.1
       rw [List.length_map,List.length_map] at hl3 hl4
       have hnJ:nJ<=48:=by rw [HNJ.out,hl3];exact HTr.out.i1.J
       have HNMb:Hid (NM<=1000000):=by show _<=_;rw [HNM2.out,hl4];exact Nat.le_trans HTr.out.i1.M (by decide)
       have hcJ1:nJ<=cJ:=HS8.out.cC
       have hcJ2:cJ<=9223372036854775807:=HS8.out.cC2
       clear hO hS hbr hck hnx hb8 HTr HLV2 hl3 hl4
       go_wp2_with ((with_reducible refine store_bk rfl 31 (.tmp 7) (.tmp 57) rfl w8.heap.size 0 (⟨ck,nx,AM,NM,cM,BQ,KQ,cQ,CJ,nJ,cJ⟩:Sv).arr rfl rfl 31 _ (⟨ck,nx,AM,NM,cM,BQ,KQ,cQ,CJ,nJ,cJ⟩:Sv).arr (Bk.fresh _ _ _) (by kernel_rfl) (by simp) (by kernel_rfl) rfl ?_);intro w7 hB7 hg7 hs7;have HB7:=Lib.hid hB7;have HL7:Hid (Below w8.heap.size w8 w7):=((Below.refl _ _).alloc (Nat.le_refl _) _).grown hg7 (by simp) (by intro k hk;injection hk with hk;omega);have c74:w7.cell? ⟨w8.heap.size,4,none⟩=some (.slice CJ nJ cJ):=hB7.cellAt 4;clear hB7 hg7 hs7)
       clear c74
       obtain ⟨p7,hp7⟩:∃ p,p=w8.heap.size:=⟨_,rfl⟩
       rw [<- hp7] at HB7 ⊢
       have HS7:Hid (RdSt w7 ⟨ck,nx,AM,NM,cM,BQ,KQ,cQ,CJ,nJ,cJ⟩ Sa):=HS8.out.later HL7.out
       have HB77:Hid (Below w.heap.size w w7):=HB8.out.trans (HL7.out.mono HB8.out.size)
       clear hp7 HS8 HB8 HL7
       go_loopw [61] (fun s61 wr=>∃ k:Nat,k<=nJ/\s61 = .int .i64 k/\Hid (Below w7.heap.size w7 wr)) (fun s61 wr=>nJ - (intOf s61).toNat)
       case atStart=>exact ⟨0,Nat.zero_le _,rfl,Below.refl _ _⟩
       case round=>
        obtain ⟨k,hk,rfl,HBK⟩:=hrel
        have c74:wr.cell? ⟨p7,4,none⟩=some (.slice CJ nJ cJ):=(HB7.out.later HBK.out).cellAt 4
        by_cases hlt:k<nJ
        ·have hkl:k<Sa.J.length:=by rw [<- HNJ.out];exact hlt
         have hkb:k<(jbs Sa.J).length:=by simpa [jbs] using hkl
         obtain ⟨gj,oj,hCJ,hgj,hja⟩:=(HS7.out.J.later HBK.out).at hkb
         rw [jbs_at hkl] at hja
         change CJ=some ⟨gj,oj,none⟩ at hCJ
         obtain ⟨x,hx⟩:∃ x,x=Sa.J[k]:=⟨_,rfl⟩
         rw [<- hx] at hja
         have HJA:=Lib.hid hja.rg
         have HKO:Hid (KtOk w7 x.1.tk x.2):=by rw [hx];exact HS7.out.oJ.at hkl
         have HNO2:Hid (x.1.nd.size=0->x.1.ga.size=0 -> ∀ y ∈ Sa.M,why y.1 y.2 x.1.tk x.2 (jbs Sa.J) ≠ 0):=by
          intro h1 h2
          rw [hx] at h1 h2 ⊢
          exact HLT.out k hkl (decide_eq_true h1) h2
         have HAR:Hid (x.1.arr.toList.length=13):=rfl
         subst hCJ
         have hkk:(k:Int)<(nJ:Int):=Int.ofNat_lt.2 hlt
         clear hja hx hgj hkl hkb
         go_wp2_with (first | (with_reducible refine load_rg rfl 66 _ rfl gj (oj+k * 13) rfl x.1.arr _ HJA.out Tryz.underlying66 rfl (by kernel_rfl) ?_) | ((with_reducible refine store_bk rfl 66 (.tmp 9) (.tmp 68) rfl wr.heap.size 0 x.1.arr rfl rfl 66 _ x.1.arr (Bk.fresh _ _ _) (by kernel_rfl) (by simp) (by kernel_rfl) rfl ?_);intro w9 hB9 hg9 hs9;have HB9:=Lib.hid hB9;have HL9:Hid (Below wr.heap.size wr w9):=((Below.refl _ _).alloc (Nat.le_refl _) _).grown hg9 (by simp) (by intro k hk;injection hk with hk;omega);clear hB9 hg9 hs9;refine haltW2 ?_))
         have HB79:Hid (Below w7.heap.size w7 w9):=HBK.out.trans (HL9.out.mono HBK.out.size)
         obtain ⟨p9,hp9⟩:∃ p,p=wr.heap.size:=⟨_,rfl⟩
         rw [<- hp9] at HB9 ⊢
         refine Lib.hid ?_
         clear c74 HL9 hp9 HJA HBK
         have c92:w9.cell? ⟨p9,11,none⟩=some (.string x.1.nd):=HB9.out.cellAt 11
         have c96:w9.cell? ⟨p9,8,none⟩=some (.string x.1.ga):=HB9.out.cellAt 8
         obtain ⟨nd,hnd⟩:∃ nd,nd=x.1.nd:=⟨_,rfl⟩
         obtain ⟨gg,hgg⟩:∃ gg,gg=x.1.ga:=⟨_,rfl⟩
         rw [<- hnd] at c92 HNO2
         rw [<- hgg] at c96 HNO2
         by_cases hw:nd.size=0
         ·obtain rfl:=empty_of hw
          by_cases hgs:gg.size=0
          ·obtain rfl:=empty_of hgs
           have HW9:Hid (∀ y ∈ Sa.M,why y.1 y.2 x.1.tk x.2 (jbs Sa.J) ≠ 0):=HNO2.out hw hgs
           have c72:w9.cell? ⟨p7,2,none⟩=some (.slice AM NM cM):=(HB7.out.later HB79.out).cellAt 2
           have c74:w9.cell? ⟨p7,4,none⟩=some (.slice (some ⟨gj,oj,none⟩) nJ cJ):=(HB7.out.later HB79.out).cellAt 4
           have HTK:Hid (w9.rangeAt p9 0 x.1.tk.arr.toList):=rangeSub10 (HB9.out.range (Part.whole _))
           have HCA:=Lib.hid (all_none AM NM cM Sa.M (some ⟨gj,oj,none⟩) nJ cJ (jbs Sa.J) x.1.tk x.2 w9 HNM2 HNMb.out (HS7.out.M.later HB79.out) (fun y hy=>(HS7.out.oM y hy).later HB79.out) (by rw [HNJ.out,jbs_length];exact rfl) (Nat.le_trans hnJ (by decide)) (HS7.out.J.later HB79.out) (HKO.out.later HB79.out) HW9)
           clear hnd hgg hw hgs HNO2 HW9
           go_wp2_with (with_reducible refine load_rg rfl 47 _ rfl p9 0 rfl x.1.tk.arr _ HTK.out Tryz.underlying47 rfl (by kernel_rfl) ?_)
           refine HCA.out.mono ?_
           rintro e wa ⟨rfl,hba⟩
           have HBA:Hid (Below w7.heap.size w7 wa):=HB79.out.trans (hba.mono HB79.out.size)
           clear hba c72 c74 c92 c96
           go_wp2_with fail
           go_round
           case rel=>exact ⟨k+1,hlt,by go_num,HBA⟩
           case measure=>simp [intOf];omega
          ·have hfu:=full_of hgs
           clear hnd hgg hw hgs HNO2
           go_wp2_with fail
           go_round
           case rel=>exact ⟨k+1,hlt,by go_num,HB79⟩
           case measure=>simp [intOf];omega
         ·have hfu:=full_of hw
          clear hnd hgg hw HNO2
          go_wp2_with fail
          go_round
          case rel=>exact ⟨k+1,hlt,by go_num,HB79⟩
          case measure=>simp [intOf];omega
        ·clear hk c74
         go_wp2_with fail
         go_ret
         exact ⟨rfl,HB77.out.trans (HBK.out.mono HB77.out.size)⟩
end gen1Leaves
end
end Go.Proofs.YtccccbofcnmdiaaGreat
