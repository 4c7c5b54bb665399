/- Lemmas that the law stands on. No condition. -/
import Derived.Test.YtccccbofcnmdiaaGreatM27
namespace Go.Proofs.YtccccbofcnmdiaaGreat
set_option linter.unusedSimpArgs false
set_option linter.unusedVariables false
set_option maxRecDepth 100000
set_option maxHeartbeats 51200000
section
open Go.RowKit
theorem noText0:∀ (j:Nat)(s:ByteArray),(#[.int .i64 0,.slice none 0 0]:Array Value)[j]? ≠ some (Value.string s):=by
 intro j s h
 match j,h with
 | 0,h=>simp at h
 | 1,h=>simp at h
 | j+2,h=>simp at h
section
variable {o:Oper}{a:Act}{w:World}{K:Act->World->Prop}{Q:Exit->Act->World->Prop}
theorem acell_op (ho:o.op = .alloc 36)(h:∀ g w',g=w.heap.size->Bk w' g 36 #[.int .i64 0,.slice none 0 0]->Below w.heap.size w w' -> K (a.put o.dst (.pointer (some ⟨g,0,none⟩))) w'):o.wp Tryz.prog a w K Q:=by
 unfold Oper.wp execOp
 simp only [ho]
 go_simp
 exact h _ _ rfl (Bk.fresh w _ _) ((Below.refl _ _).alloc (Nat.le_refl _) _)
end
def Off (F K:Nat->Prop)(w9:World) (p:Nat):Prop:=¬ F p /\ ¬ K p/\w9.heap.size<=p
theorem RetL.later {b:Nat} {w w':World}{A:Option Addr}{n c:Nat}{l:List Ac}(h:RetL b w A n c l)(hb:Below w.heap.size w w'):RetL b w' A n c l:=⟨h.1,h.2.1.later hb,h.2.2⟩
theorem RetL.grp {b:Nat} {w w':World}{A:Option Addr}{n c:Nat}{l:List Ac}{p:Nat->Prop}(h:RetL b w A n c l)(hg:GrP p w w')(hp:∀ k,p k->k<b):RetL b w' A n c l:=⟨h.1,h.2.1.grp hg (fun a ha e=>by have h1:=h.2.2.2.2 a ha;have h2:=hp _ e;omega),h.2.2⟩
theorem RetL.aside {b p:Nat} {w w':World}{A:Option Addr}{n c:Nat}{l:List Ac}{t:TypeId}{cs:Array Value}(h:RetL b w A n c l)(hB:Bk w p t cs)(hcs:∀ (j:Nat)(s:ByteArray),cs[j]? ≠ some (Value.string s))(hg:w.grownBy w' (some p)):RetL b w' A n c l:=⟨h.1,h.2.1.aside hB hcs hg,h.2.2⟩
def Cut15 (w w9:World) (g h:Nat)(F Ky:Nat->Prop)(S:Sg)(x:Oz) (m:Int)(wx:World)(s9 s10:Value):Prop:=∃ (p9 p10:Nat)(A1:Option Addr) (n1 c1:Nat)(A2:Option Addr) (n2 c2:Nat)(F1 K1:Nat->Prop),s9 = .pointer (some ⟨p9,0,none⟩)/\s10 = .pointer (some ⟨p10,0,none⟩)/\GrP (fun k=>F k ∨ Ky k) w9 wx/\Tg w wx g h F1 K1 (stF S x.v).1 (stF S x.v).1 (m+1001000) (m+1001000)/\Bk wx p9 36 #[.int .i64 (stF S x.v).2.1,.slice A1 n1 c1]/\Bk wx p10 36 #[.int .i64 (stF S x.v).2.1,.slice A2 n2 c2]/\RetL w9.heap.size wx A1 n1 c1 (stF S x.v).2.2/\RetL w9.heap.size wx A2 n2 c2 (stF S x.v).2.2/\(∀ k,F1 k->F k ∨ w9.heap.size<=k) /\ ∀ k,K1 k->Ky k ∨ w9.heap.size<=k
namespace gen1Same


theorem walk (B0:Option Addr) (N cap:Nat)(z:List Oz) (at0:Int)(w:World)(hn0:N=z.length)(hr0:RdK w 21 B0 (z.map eZ))(hc1:N<=cap)(hc2:cap<=9223372036854775807)(ho0:∀ x ∈ z,OzOk w x)(hat:(Lit.int .u64 at0).wf=true) :
  Calls Tryz.prog 10 #[.slice B0 N cap,.int .u64 at0] w fun r w'=>r = .returned (.bool true)/\Below w.heap.size w w':=by
 have K1:=Lib.hid (fun W=>awake15_any W)
 have K7:=Lib.hid (fun (A:Option Addr) (n c:Nat)(l:List Oz)(W:World)(hn:n=l.length)(hm:n<=9223372036854775807)(hr:RdOps W A l)=>few15_any A n c l W (Lib.hid hn) hm (Lib.hid hr))
 have HN:=Lib.hid hn0
 have HRD:Hid (RdOps w B0 z):=⟨hr0,ho0⟩
 have HNM:Hid (N<=9223372036854775807):=by show _<=_;omega
 have HNC:Hid (N<=cap/\cap<=9223372036854775807):=⟨hc1,hc2⟩
 have HAT:Hid (0<=at0/\at0<=18446744073709551615):=by show 0<=at0/\at0<=18446744073709551615;simpa [Lit.wf,IntKind.min,IntKind.max,IntKind.signed,IntKind.bits] using hat
 clear hn0 hr0 ho0 hc1 hc2 hat
 go_enter Tryz.func10,Tryz.ntmps10
 go_wp2_with fail
 refine (K1.out _).mono ?_;rintro e w1 ⟨rfl,hb1⟩
 have HB1:=Lib.hid hb1
 clear hb1
 go_wp2_with fail
 refine (K7.out B0 N cap z _ HN.out HNM.out (HRD.out.later HB1.out)).mono ?_;rintro e w2 ⟨⟨b,rfl,hfew⟩,hb2⟩
 have HB2:=Lib.hid (HB1.out.trans (hb2.mono HB1.out.size))
 clear hb2 HB1 HNM
 cases b with
 | false=>
  go_wp2_with fail
  refine (K1.out _).mono ?_;rintro e w3 ⟨rfl,hb3⟩
  go_wp2_with fail
  go_ret
  exact ⟨rfl,HB2.out.trans (hb3.mono HB2.out.size)⟩
 | true=>
  have HN150:Hid (N<=150):=(hfew rfl).1
  have HSM:Hid (∀ x ∈ z,x.m1<=20/\x.m3<=20):=(hfew rfl).2
  clear hfew
  go_wp2_with fail
  refine (tg_new1 w w2 HB2.out).mono ?_;rintro e w3 ⟨rfl,hX3,hb3⟩
  obtain ⟨g,hg⟩:∃ g,g=w2.heap.size:=⟨_,rfl⟩
  rw [<- hg] at hX3 ⊢
  have HB3:=Lib.hid (HB2.out.trans (hb3.mono HB2.out.size))
  have HX3:=Lib.hid hX3
  have HG0:=Lib.hid hg
  have HSZ:=Lib.hid hb3.size
  clear hX3 hb3 hg
  go_wp2_with fail
  refine (tg_new1 w w3 HB3.out).mono ?_;rintro e w4 ⟨rfl,hX4,hb4⟩
  obtain ⟨h,hh⟩:∃ h,h=w3.heap.size:=⟨_,rfl⟩
  have HT4:Hid (Tg w w4 g h (fun k=>g<=k/\k<w3.heap.size) (fun k=>w3.heap.size<=k/\k<w4.heap.size) Sg.new Sg.new 0 0):=by
   refine ⟨HX3.out.below hb4,by rw [hh];exact hX4,fun k h1 h2=>by omega,fun k hk=>?_,fun k hk=>⟨Nat.le_trans HB3.out.size hk.1,hk.2⟩,in2_new,in2_new,HB3.out.trans (hb4.mono HB3.out.size)⟩
   have h1:=HB2.out.size;have h2:=HG0.out;have h3:=hb4.size;omega
  rw [<- hh]
  clear hX4 hb4 hh HX3 HB3 HB2 HG0 HSZ
  obtain ⟨b,rfl,hb64⟩:∃ b:Nat,at0=(b:Int)/\b<18446744073709551616:=⟨at0.toNat,by have:=HAT.out;omega,by have:=HAT.out;omega⟩
  have dn:(((N:Int)+1) == 0)=false:=by simp;omega
  have hN150:=HN150.out
  go_upto_region 5 with fail
  generalize wrap64 ((b:Int) % ((N:Int)+1))=κ
  clear dn hN150 hb64 HAT
  go_wp2_with fail
  go_loopw [6,32] (fun s6 s32 wr=>∃ (i:Nat)(F Ky:Nat->Prop)(S:Sg) (h:Nat),i<=N/\s6 = .pointer (some ⟨h,0,none⟩)/\s32 = .int .i64 i/\Hid (Tg w wr g h F Ky S S (1001000 * (i:Int)) (1001000 * (i:Int)))/\Hid (Rg S)) (fun s6 s32 wr=>N - (intOf s32).toNat)
  case atStart=>exact ⟨0,_,_,_,h,Nat.zero_le _,rfl,rfl,HT4,Rg.new⟩
  case round=>
   clear HT4
   obtain ⟨i,F,Ky,S,h,hi,rfl,rfl,HT,HRG⟩:=hrel
   by_cases hin:i<N
   ·skip
    have hil:Hid (i<z.length):=by show i<z.length;rw [<- HN.out];exact hin
    obtain ⟨x,hx⟩:∃ x,x=z[i]'hil.out:=⟨_,rfl⟩
    obtain ⟨q,o,hA,hrg⟩:=HRD.out.rd.at (i:=i) (by rw [List.length_map];exact hil.out)
    rw [List.getElem_map,<- hx] at hrg
    subst hA
    have hxm:x ∈ z:=by rw [hx];exact List.getElem_mem _
    have HOKW:=Lib.hid (HRD.out.ok x hxm)
    have hsm:=HSM.out x hxm
    have HL1:Hid (x.v.l1.length<=1000):=by show _<=_;have:=HOKW.out.l1.len;have:=hsm.1;omega
    have HL3:Hid (x.v.l3.length<=1000):=by show _<=_;have:=HOKW.out.l3.len;have:=hsm.2;omega
    have HRG2:Hid (w.rangeAt q (o+i * 21) x.arr.toList):=hrg
    have hii:(i:Int)<(N:Int):=Int.ofNat_lt.2 hin
    have hm0:(0:Int)<=1001000 * (i:Int):=Int.mul_nonneg (by decide) (Int.natCast_nonneg i)
    have HMM:Hid (1001000 * (i:Int)<=1152921504606846976):=by show _<=_;have:=HN150.out;omega
    have HMS:Hid (1001000 * (i:Int)<=1099511627776):=by show _<=_;have:=HN150.out;omega
    have HMI:Hid (1001000 * ((i+1:Nat):Int)=1001000 * (i:Int)+1001000):=by show _=_;omega
    clear hx hrg hxm hsm hil
    go_upto_if 37 with fail
    try simp only [Act.put]
    go_cut [6,9,10] (fun s6 s9 s10 wx=>∃ (h':Nat) (Ky':Nat->Prop),s6 = .pointer (some ⟨h',0,none⟩)/\Tg w wx g h' F Ky' S S (1001000 * (i:Int)) (1001000 * (i:Int)))
    case first=>
     rcases Bool.eq_false_or_eq_true ((i:Int) == κ) with hk | hk
     ·try rw [hk]
      go_wp2_with fail
      refine (gx_told HT.out.g1 HT.out.i1).mono ?_
      rintro e wa ⟨⟨va,Ta,rfl,-,hSa,hba,-,-⟩,hb2⟩
      have HSA:=Lib.hid hSa;have HBA:=Lib.hid hba;have HB2:=Lib.hid hb2
      clear hSa hba hb2
      go_wp2_with fail
      refine (load_told HSA.out HBA.out HT.out.i1 HMS.out HRG.out).mono ?_
      rintro e wb ⟨⟨g',rfl,hG⟩,hb3⟩
      have HTb:=Lib.hid (HT.out.anew HB2.out hb3 hG)
      clear hG hb3 HSA HBA HB2 HT
      go_wp2_with fail
      go_meet
      exact ⟨g',_,rfl,HTb.out⟩
     ·try rw [hk]
      go_wp2_with fail
      go_meet
      exact ⟨h,Ky,rfl,HT.out⟩
    case rest=>
     obtain ⟨h',Ky',rfl,hT9⟩:=hcut
     obtain ⟨w9,hw9⟩:∃ W,W=wc:=⟨_,rfl⟩
     rw [<- hw9] at hT9 ⊢
     have HT9:=Lib.hid hT9
     have HB9:Hid (Below w.heap.size w w9):=hT9.be
     clear hT9 hw9 HT
     have HFL:Hid (∀ k,F k ∨ Ky' k->w.heap.size<=k/\k<w9.heap.size):=fun k hk=>hk.elim (HT9.out.b1 k) (HT9.out.b2 k)
     have HKL:Hid (∀ k,Ky' k->k<w9.heap.size):=fun k hk=>(HFL.out k (.inr hk)).2
     have HGW:Hid (∀ W,GrP (fun k=>F k ∨ Ky' k) w9 W->Below w.heap.size w W):=fun W hG=>HB9.out.trans (hG.below HB9.out.size fun k hk=>(HFL.out k hk).1)
     have HZX:Hid (∀ W,GrP (fun k=>F k ∨ Ky' k) w9 W->OzOk W x):=fun W hG=>HOKW.out.later (HGW.out W hG)
     have HXR:Hid (∀ W,GrP (fun k=>F k ∨ Ky' k) w9 W->W.rangeAt q (o+i * 21) x.arr.toList):=fun W hG=>range_keep HRG2.out (HGW.out W hG)
     go_upto_region 13 with fail
     try simp only [Act.put]
     go_cut [11,12] (fun s11 s12 wx=>Cut15 w w9 g h' F Ky' S x (1001000 * (i:Int)) wx s11 s12)
     case first=>
      refine wp_region_held_drew (S:=fun W=>GrP (fun k=>F k ∨ Ky' k) w9 W) (by kernel_rfl) (GrP.ofBelow (Below.drew (Below.refl _ _))) (fun hS0=>?_)
      refine wU (i:=0) (v:=?_) rfl ?_ hS0 ?_
      rotate_left
      ·intro W _;go_simp;try with_reducible rfl
      try simp only [Act.put,tD,tB,tA,tE,tF]
      refine wU (i:=1) (v:=?_) rfl ?_ hS0 ?_
      rotate_left
      ·intro W _;go_simp;try with_reducible rfl
      try simp only [Act.put,tZ]
      refine wU (i:=2) (v:=?_) rfl ?_ hS0 ?_
      rotate_left
      ·intro W _;go_simp;try with_reducible rfl
      try simp only [Act.put,tZ]
      refine wU (i:=3) (v:=?_) rfl ?_ hS0 ?_
      rotate_left
      ·intro W _;go_simp;try with_reducible rfl
      try simp only [Act.put,tZ]
      refine wT (i:=4) (v:=.agg x.arr) rfl (yields_rg (by rfl) 49 _ rfl q (o+i * 21) rfl x.arr _ (fun W hW=>HXR.out W hW) Tryz.underlying49 rfl (by kernel_rfl)) hS0 ?_
      try simp only [Act.put,tZ]
      refine wU (i:=6) (v:=?_) rfl ?_ hS0 ?_
      rotate_left
      ·intro W _;go_simp;try with_reducible rfl
      try simp only [Act.put,tZ]
      refine wU (i:=7) (v:=?_) rfl ?_ hS0 ?_
      rotate_left
      ·intro W _;go_simp;try with_reducible rfl
      try simp only [Act.put,tZ]
      refine wU (i:=8) (v:=?_) rfl ?_ hS0 ?_
      rotate_left
      ·intro W _;go_simp;try with_reducible rfl
      try simp only [Act.put,tZ]
      refine wU (i:=9) (v:=?_) rfl ?_ hS0 ?_
      rotate_left
      ·intro W _;go_simp;try with_reducible rfl
      try simp only [Act.put,tZ]
      refine wT (i:=10) (v:=.agg x.arr) rfl (yields_rg (by rfl) 49 _ rfl q (o+i * 21) rfl x.arr _ (fun W hW=>HXR.out W hW) Tryz.underlying49 rfl (by kernel_rfl)) hS0 ?_
      try simp only [Act.put,tZ]
      have HT:=Lib.hid (HT9.out.below (Below.drew (Below.refl _ _)))
      refine wpAnyH_ready (rs:=[5,12,13]) (by kernel_rfl) (by simp) ?_
      refine (AllReadyH.cons rfl (fun K hK=>?_) (AllReadyH.cons rfl (fun K hK=>?_) (AllReadyH.cons rfl (fun K hK=>?_) AllReadyH.nil)))
      ·go_simp
       have hsz:=hS0.size
       refine (tg_left HT.out hm0 HMM.out x (HZX.out _ hS0) HL1.out HL3.out).mono ?_
       rintro e y1 ⟨⟨A1,n1,c1,rfl,hR⟩,hT,hG⟩
       have HR1:Hid (RetL w9.heap.size y1 A1 n1 c1 (stF S x.v).2.2):=RetL.base hR hsz
       have HF1:Hid (∀ k,nextF F w9.drew y1 k->F k ∨ w9.heap.size<=k):=fun k hk=>hk.1.imp id (fun h=>Nat.le_trans hsz h)
       clear HT
       obtain ⟨F1,hF1⟩:∃ G,G=nextF F w9.drew y1:=⟨_,rfl⟩
       rw [<- hF1] at hT HF1
       have HT:=Lib.hid hT
       go_simp
       refine hK.out _ _ (hS0.late hG (fun k hk=>.inl (.inl hk))) (fun hS1=>?_)
       clear hK K hR hT hG hsz hF1
       try simp only [Act.put,tZ]
       refine wpAnyH_ready (rs:=[11,12,13]) (by kernel_rfl) (by simp) ?_
       refine (AllReadyH.cons rfl (fun K hK=>?_) (AllReadyH.cons rfl (fun K hK=>?_) (AllReadyH.cons rfl (fun K hK=>?_) AllReadyH.nil)))
       ·go_simp
        have hsz:=hS1.size
        refine (tg_right HT.out hm0 HMM.out x (HZX.out _ hS1) HL1.out HL3.out).mono ?_
        rintro e y2 ⟨⟨A2,n2,c2,rfl,hR⟩,hT,hG⟩
        replace HR1:=Lib.hid (HR1.out.grp hG HKL.out)
        have HR2:Hid (RetL w9.heap.size y2 A2 n2 c2 (stF S x.v).2.2):=RetL.base hR hsz
        have HK1:Hid (∀ k,nextF Ky' y1 y2 k->Ky' k ∨ w9.heap.size<=k):=fun k hk=>hk.1.imp id (fun h=>Nat.le_trans hsz h)
        clear HT
        obtain ⟨K1,hK1⟩:∃ G,G=nextF Ky' y1 y2:=⟨_,rfl⟩
        rw [<- hK1] at hT HK1
        have HT:=Lib.hid hT
        go_simp
        refine hK.out _ _ (hS1.late hG (fun k hk=>.inl (.inr hk))) (fun hS2=>?_)
        clear hK K hR hT hG hsz hK1
        try simp only [Act.put,tZ]
        refine wpAnyH_ready (rs:=[12,13]) (by kernel_rfl) (by simp) ?_
        refine (AllReadyH.cons rfl (fun K hK=>?_) (AllReadyH.cons rfl (fun K hK=>?_) AllReadyH.nil))
        ·simp only [if_pos,Region.wanted]
         refine acell_op rfl ?_
         intro p9 y3 hp hZ hbl
         have HO9:Hid (Off F1 K1 w9 p9):=⟨fun e=>by have:=(HT.out.b1 _ e).2;omega,fun e=>by have:=(HT.out.b2 _ e).2;omega,by have:=hS2.size;omega⟩
         have HZ9:=Lib.hid hZ
         replace HT:=Lib.hid (HT.out.below hbl)
         replace HR1:=Lib.hid (HR1.out.later hbl)
         replace HR2:=Lib.hid (HR2.out.later hbl)
         refine hK.out _ _ (hS2.trans (GrP.ofBelow hbl)) (fun hS3=>?_)
         clear hK K hp hZ hbl
         try simp only [Act.put,tZ]
         refine wpAnyH_ready (rs:=[13]) (by kernel_rfl) (by simp) ?_
         refine (AllReadyH.cons rfl (fun K hK=>?_) AllReadyH.nil)
         ·simp only [if_pos,Region.wanted]
          refine acell_op rfl ?_
          intro p10 y4 hp hZ hbl
          have HO10:Hid (Off F1 K1 w9 p10):=⟨fun e=>by have:=(HT.out.b1 _ e).2;omega,fun e=>by have:=(HT.out.b2 _ e).2;omega,by have:=hS3.size;omega⟩
          have HZ10:=Lib.hid hZ
          replace HT:=Lib.hid (HT.out.below hbl)
          have HNE:Hid (p9 ≠ p10):=(by have:=HZ9.out.here;show _ ≠ _;omega);replace HZ9:=Lib.hid (HZ9.out.later hbl)
          replace HR1:=Lib.hid (HR1.out.later hbl)
          replace HR2:=Lib.hid (HR2.out.later hbl)
          refine hK.out _ _ (hS3.trans (GrP.ofBelow hbl)) (fun hS4=>?_)
          clear hK K hp hZ hbl
          try simp only [Act.put,tZ]
          refine wpAnyH_ready (rs:=[14]) (by kernel_rfl) (by simp) ?_
          refine (AllReadyH.cons rfl (fun K hK=>?_) AllReadyH.nil)
          ·simp only [if_pos,Region.wanted]
           refine store_bk_op 36 (.tmp 11) (.tmp 56) rfl p9 0 #[.int .i64 (stF S x.v).2.1,.slice A1 n1 c1] rfl rfl 36 #[.int .i64 0,.slice none 0 0] #[.int .i64 (stF S x.v).2.1,.slice A1 n1 c1] HZ9.out (by kernel_rfl) (by simp) (by kernel_rfl) rfl ?_
           intro y5 hX hgr hs9
           replace HZ10:=Lib.hid (HZ10.out.stays hgr (by have:=HNE.out;simp;omega))
           replace HT:=Lib.hid (HT.out.grp (GrP.of hgr) (fun k hk=>by injection hk with hk;subst hk;exact ⟨HO9.out.1,HO9.out.2.1,Nat.le_trans HB9.out.size HO9.out.2.2⟩))
           replace HR1:=Lib.hid (HR1.out.aside HZ9.out noText0 hgr)
           replace HR2:=Lib.hid (HR2.out.aside HZ9.out noText0 hgr)
           clear HZ9;have HZ9:=Lib.hid hX
           refine hK.out _ _ (hS4.more hgr (fun k hk=>by injection hk with hk;subst hk;exact .inr HO9.out.2.2)) (fun hS5=>?_)
           clear hK K hX hgr hs9
           try simp only [Act.put,tZ]
           refine wpAnyH_ready (rs:=[15]) (by kernel_rfl) (by simp) ?_
           refine (AllReadyH.cons rfl (fun K hK=>?_) AllReadyH.nil)
           ·simp only [if_pos,Region.wanted]
            refine store_bk_op 36 (.tmp 12) (.tmp 62) rfl p10 0 #[.int .i64 (stF S x.v).2.1,.slice A2 n2 c2] rfl rfl 36 #[.int .i64 0,.slice none 0 0] #[.int .i64 (stF S x.v).2.1,.slice A2 n2 c2] HZ10.out (by kernel_rfl) (by simp) (by kernel_rfl) rfl ?_
            intro y6 hX hgr hs9
            replace HZ9:=Lib.hid (HZ9.out.stays hgr (by have:=HNE.out;simp;omega))
            replace HT:=Lib.hid (HT.out.grp (GrP.of hgr) (fun k hk=>by injection hk with hk;subst hk;exact ⟨HO10.out.1,HO10.out.2.1,Nat.le_trans HB9.out.size HO10.out.2.2⟩))
            replace HR1:=Lib.hid (HR1.out.aside HZ10.out noText0 hgr)
            replace HR2:=Lib.hid (HR2.out.aside HZ10.out noText0 hgr)
            clear HZ10;have HZ10:=Lib.hid hX
            refine hK.out _ _ (hS5.more hgr (fun k hk=>by injection hk with hk;subst hk;exact .inr HO10.out.2.2)) (fun hS6=>?_)
            clear hK K hX hgr hs9
            try simp only [Act.put,tZ]
            refine wpAnyH_done (by kernel_rfl) ?_ _
            go_wp2_with fail
            go_meet
            exact ⟨p9,p10,A1,n1,c1,A2,n2,c2,F1,K1,rfl,rfl,hS6,HT.out,HZ9.out,HZ10.out,HR1.out,HR2.out,HF1.out,HK1.out⟩
        ·simp only [if_pos,Region.wanted]
         refine acell_op rfl ?_
         intro p10 y3 hp hZ hbl
         have HO10:Hid (Off F1 K1 w9 p10):=⟨fun e=>by have:=(HT.out.b1 _ e).2;omega,fun e=>by have:=(HT.out.b2 _ e).2;omega,by have:=hS2.size;omega⟩
         have HZ10:=Lib.hid hZ
         replace HT:=Lib.hid (HT.out.below hbl)
         replace HR1:=Lib.hid (HR1.out.later hbl)
         replace HR2:=Lib.hid (HR2.out.later hbl)
         refine hK.out _ _ (hS2.trans (GrP.ofBelow hbl)) (fun hS3=>?_)
         clear hK K hp hZ hbl
         try simp only [Act.put,tZ]
         refine wpAnyH_ready (rs:=[12]) (by kernel_rfl) (by simp) ?_
         refine (AllReadyH.cons rfl (fun K hK=>?_) AllReadyH.nil)
         ·simp only [if_pos,Region.wanted]
          refine acell_op rfl ?_
          intro p9 y4 hp hZ hbl
          have HO9:Hid (Off F1 K1 w9 p9):=⟨fun e=>by have:=(HT.out.b1 _ e).2;omega,fun e=>by have:=(HT.out.b2 _ e).2;omega,by have:=hS3.size;omega⟩
          have HZ9:=Lib.hid hZ
          replace HT:=Lib.hid (HT.out.below hbl)
          have HNE:Hid (p10 ≠ p9):=(by have:=HZ10.out.here;show _ ≠ _;omega);replace HZ10:=Lib.hid (HZ10.out.later hbl)
          replace HR1:=Lib.hid (HR1.out.later hbl)
          replace HR2:=Lib.hid (HR2.out.later hbl)
          refine hK.out _ _ (hS3.trans (GrP.ofBelow hbl)) (fun hS4=>?_)
          clear hK K hp hZ hbl
          try simp only [Act.put,tZ]
          refine wpAnyH_ready (rs:=[14]) (by kernel_rfl) (by simp) ?_
          refine (AllReadyH.cons rfl (fun K hK=>?_) AllReadyH.nil)
          ·simp only [if_pos,Region.wanted]
           refine store_bk_op 36 (.tmp 11) (.tmp 56) rfl p9 0 #[.int .i64 (stF S x.v).2.1,.slice A1 n1 c1] rfl rfl 36 #[.int .i64 0,.slice none 0 0] #[.int .i64 (stF S x.v).2.1,.slice A1 n1 c1] HZ9.out (by kernel_rfl) (by simp) (by kernel_rfl) rfl ?_
           intro y5 hX hgr hs9
           replace HZ10:=Lib.hid (HZ10.out.stays hgr (by have:=HNE.out;simp;omega))
           replace HT:=Lib.hid (HT.out.grp (GrP.of hgr) (fun k hk=>by injection hk with hk;subst hk;exact ⟨HO9.out.1,HO9.out.2.1,Nat.le_trans HB9.out.size HO9.out.2.2⟩))
           replace HR1:=Lib.hid (HR1.out.aside HZ9.out noText0 hgr)
           replace HR2:=Lib.hid (HR2.out.aside HZ9.out noText0 hgr)
           clear HZ9;have HZ9:=Lib.hid hX
           refine hK.out _ _ (hS4.more hgr (fun k hk=>by injection hk with hk;subst hk;exact .inr HO9.out.2.2)) (fun hS5=>?_)
           clear hK K hX hgr hs9
           try simp only [Act.put,tZ]
           refine wpAnyH_ready (rs:=[15]) (by kernel_rfl) (by simp) ?_
           refine (AllReadyH.cons rfl (fun K hK=>?_) AllReadyH.nil)
           ·simp only [if_pos,Region.wanted]
            refine store_bk_op 36 (.tmp 12) (.tmp 62) rfl p10 0 #[.int .i64 (stF S x.v).2.1,.slice A2 n2 c2] rfl rfl 36 #[.int .i64 0,.slice none 0 0] #[.int .i64 (stF S x.v).2.1,.slice A2 n2 c2] HZ10.out (by kernel_rfl) (by simp) (by kernel_rfl) rfl ?_
            intro y6 hX hgr hs9
            replace HZ9:=Lib.hid (HZ9.out.stays hgr (by have:=HNE.out;simp;omega))
            replace HT:=Lib.hid (HT.out.grp (GrP.of hgr) (fun k hk=>by injection hk with hk;subst hk;exact ⟨HO10.out.1,HO10.out.2.1,Nat.le_trans HB9.out.size HO10.out.2.2⟩))
            replace HR1:=Lib.hid (HR1.out.aside HZ10.out noText0 hgr)
            replace HR2:=Lib.hid (HR2.out.aside HZ10.out noText0 hgr)
            clear HZ10;have HZ10:=Lib.hid hX
            refine hK.out _ _ (hS5.more hgr (fun k hk=>by injection hk with hk;subst hk;exact .inr HO10.out.2.2)) (fun hS6=>?_)
            clear hK K hX hgr hs9
            try simp only [Act.put,tZ]
            refine wpAnyH_done (by kernel_rfl) ?_ _
            go_wp2_with fail
            go_meet
            exact ⟨p9,p10,A1,n1,c1,A2,n2,c2,F1,K1,rfl,rfl,hS6,HT.out,HZ9.out,HZ10.out,HR1.out,HR2.out,HF1.out,HK1.out⟩
       ·simp only [if_pos,Region.wanted]
        refine acell_op rfl ?_
        intro p9 y2 hp hZ hbl
        have HO9:Hid (Off F1 Ky' w9 p9):=⟨fun e=>by have:=(HT.out.b1 _ e).2;omega,fun e=>by have:=(HT.out.b2 _ e).2;omega,by have:=hS1.size;omega⟩
        have HZ9:=Lib.hid hZ
        replace HT:=Lib.hid (HT.out.below hbl)
        replace HR1:=Lib.hid (HR1.out.later hbl)
        refine hK.out _ _ (hS1.trans (GrP.ofBelow hbl)) (fun hS2=>?_)
        clear hK K hp hZ hbl
        try simp only [Act.put,tZ]
        refine wpAnyH_ready (rs:=[11,13]) (by kernel_rfl) (by simp) ?_
        refine (AllReadyH.cons rfl (fun K hK=>?_) (AllReadyH.cons rfl (fun K hK=>?_) AllReadyH.nil))
        ·go_simp
         have hsz:=hS2.size
         refine (tg_right HT.out hm0 HMM.out x (HZX.out _ hS2) HL1.out HL3.out).mono ?_
         rintro e y3 ⟨⟨A2,n2,c2,rfl,hR⟩,hT,hG⟩
         have HZ9':=Lib.hid (HZ9.out.grp hG HO9.out.2.1);have HO9':Hid (Off (F1) (nextF Ky' y2 y3) w9 p9):=⟨HO9.out.1,nextF.off HO9.out.2.1 HZ9.out.here,HO9.out.2.2⟩;clear HZ9 HO9;have HZ9:=HZ9';have HO9:=HO9';clear HZ9' HO9'
         replace HR1:=Lib.hid (HR1.out.grp hG HKL.out)
         have HR2:Hid (RetL w9.heap.size y3 A2 n2 c2 (stF S x.v).2.2):=RetL.base hR hsz
         have HK1:Hid (∀ k,nextF Ky' y2 y3 k->Ky' k ∨ w9.heap.size<=k):=fun k hk=>hk.1.imp id (fun h=>Nat.le_trans hsz h)
         clear HT
         obtain ⟨K1,hK1⟩:∃ G,G=nextF Ky' y2 y3:=⟨_,rfl⟩
         rw [<- hK1] at hT HK1 HO9
         have HT:=Lib.hid hT
         go_simp
         refine hK.out _ _ (hS2.late hG (fun k hk=>.inl (.inr hk))) (fun hS3=>?_)
         clear hK K hR hT hG hsz hK1
         try simp only [Act.put,tZ]
         refine wpAnyH_ready (rs:=[13]) (by kernel_rfl) (by simp) ?_
         refine (AllReadyH.cons rfl (fun K hK=>?_) AllReadyH.nil)
         ·simp only [if_pos,Region.wanted]
          refine acell_op rfl ?_
          intro p10 y4 hp hZ hbl
          have HO10:Hid (Off F1 K1 w9 p10):=⟨fun e=>by have:=(HT.out.b1 _ e).2;omega,fun e=>by have:=(HT.out.b2 _ e).2;omega,by have:=hS3.size;omega⟩
          have HZ10:=Lib.hid hZ
          replace HT:=Lib.hid (HT.out.below hbl)
          have HNE:Hid (p9 ≠ p10):=(by have:=HZ9.out.here;show _ ≠ _;omega);replace HZ9:=Lib.hid (HZ9.out.later hbl)
          replace HR1:=Lib.hid (HR1.out.later hbl)
          replace HR2:=Lib.hid (HR2.out.later hbl)
          refine hK.out _ _ (hS3.trans (GrP.ofBelow hbl)) (fun hS4=>?_)
          clear hK K hp hZ hbl
          try simp only [Act.put,tZ]
          refine wpAnyH_ready (rs:=[14]) (by kernel_rfl) (by simp) ?_
          refine (AllReadyH.cons rfl (fun K hK=>?_) AllReadyH.nil)
          ·simp only [if_pos,Region.wanted]
           refine store_bk_op 36 (.tmp 11) (.tmp 56) rfl p9 0 #[.int .i64 (stF S x.v).2.1,.slice A1 n1 c1] rfl rfl 36 #[.int .i64 0,.slice none 0 0] #[.int .i64 (stF S x.v).2.1,.slice A1 n1 c1] HZ9.out (by kernel_rfl) (by simp) (by kernel_rfl) rfl ?_
           intro y5 hX hgr hs9
           replace HZ10:=Lib.hid (HZ10.out.stays hgr (by have:=HNE.out;simp;omega))
           replace HT:=Lib.hid (HT.out.grp (GrP.of hgr) (fun k hk=>by injection hk with hk;subst hk;exact ⟨HO9.out.1,HO9.out.2.1,Nat.le_trans HB9.out.size HO9.out.2.2⟩))
           replace HR1:=Lib.hid (HR1.out.aside HZ9.out noText0 hgr)
           replace HR2:=Lib.hid (HR2.out.aside HZ9.out noText0 hgr)
           clear HZ9;have HZ9:=Lib.hid hX
           refine hK.out _ _ (hS4.more hgr (fun k hk=>by injection hk with hk;subst hk;exact .inr HO9.out.2.2)) (fun hS5=>?_)
           clear hK K hX hgr hs9
           try simp only [Act.put,tZ]
           refine wpAnyH_ready (rs:=[15]) (by kernel_rfl) (by simp) ?_
           refine (AllReadyH.cons rfl (fun K hK=>?_) AllReadyH.nil)
           ·simp only [if_pos,Region.wanted]
            refine store_bk_op 36 (.tmp 12) (.tmp 62) rfl p10 0 #[.int .i64 (stF S x.v).2.1,.slice A2 n2 c2] rfl rfl 36 #[.int .i64 0,.slice none 0 0] #[.int .i64 (stF S x.v).2.1,.slice A2 n2 c2] HZ10.out (by kernel_rfl) (by simp) (by kernel_rfl) rfl ?_
            intro y6 hX hgr hs9
            replace HZ9:=Lib.hid (HZ9.out.stays hgr (by have:=HNE.out;simp;omega))
            replace HT:=Lib.hid (HT.out.grp (GrP.of hgr) (fun k hk=>by injection hk with hk;subst hk;exact ⟨HO10.out.1,HO10.out.2.1,Nat.le_trans HB9.out.size HO10.out.2.2⟩))
            replace HR1:=Lib.hid (HR1.out.aside HZ10.out noText0 hgr)
            replace HR2:=Lib.hid (HR2.out.aside HZ10.out noText0 hgr)
            clear HZ10;have HZ10:=Lib.hid hX
            refine hK.out _ _ (hS5.more hgr (fun k hk=>by injection hk with hk;subst hk;exact .inr HO10.out.2.2)) (fun hS6=>?_)
            clear hK K hX hgr hs9
            try simp only [Act.put,tZ]
            refine wpAnyH_done (by kernel_rfl) ?_ _
            go_wp2_with fail
            go_meet
            exact ⟨p9,p10,A1,n1,c1,A2,n2,c2,F1,K1,rfl,rfl,hS6,HT.out,HZ9.out,HZ10.out,HR1.out,HR2.out,HF1.out,HK1.out⟩
        ·simp only [if_pos,Region.wanted]
         refine acell_op rfl ?_
         intro p10 y3 hp hZ hbl
         have HO10:Hid (Off F1 Ky' w9 p10):=⟨fun e=>by have:=(HT.out.b1 _ e).2;omega,fun e=>by have:=(HT.out.b2 _ e).2;omega,by have:=hS2.size;omega⟩
         have HZ10:=Lib.hid hZ
         replace HT:=Lib.hid (HT.out.below hbl)
         have HNE:Hid (p9 ≠ p10):=(by have:=HZ9.out.here;show _ ≠ _;omega);replace HZ9:=Lib.hid (HZ9.out.later hbl)
         replace HR1:=Lib.hid (HR1.out.later hbl)
         refine hK.out _ _ (hS2.trans (GrP.ofBelow hbl)) (fun hS3=>?_)
         clear hK K hp hZ hbl
         try simp only [Act.put,tZ]
         refine wpAnyH_ready (rs:=[11]) (by kernel_rfl) (by simp) ?_
         refine (AllReadyH.cons rfl (fun K hK=>?_) AllReadyH.nil)
         ·go_simp
          have hsz:=hS3.size
          refine (tg_right HT.out hm0 HMM.out x (HZX.out _ hS3) HL1.out HL3.out).mono ?_
          rintro e y4 ⟨⟨A2,n2,c2,rfl,hR⟩,hT,hG⟩
          have HZ9':=Lib.hid (HZ9.out.grp hG HO9.out.2.1);have HO9':Hid (Off (F1) (nextF Ky' y3 y4) w9 p9):=⟨HO9.out.1,nextF.off HO9.out.2.1 HZ9.out.here,HO9.out.2.2⟩;clear HZ9 HO9;have HZ9:=HZ9';have HO9:=HO9';clear HZ9' HO9'
          have HZ10':=Lib.hid (HZ10.out.grp hG HO10.out.2.1);have HO10':Hid (Off (F1) (nextF Ky' y3 y4) w9 p10):=⟨HO10.out.1,nextF.off HO10.out.2.1 HZ10.out.here,HO10.out.2.2⟩;clear HZ10 HO10;have HZ10:=HZ10';have HO10:=HO10';clear HZ10' HO10'
          replace HR1:=Lib.hid (HR1.out.grp hG HKL.out)
          have HR2:Hid (RetL w9.heap.size y4 A2 n2 c2 (stF S x.v).2.2):=RetL.base hR hsz
          have HK1:Hid (∀ k,nextF Ky' y3 y4 k->Ky' k ∨ w9.heap.size<=k):=fun k hk=>hk.1.imp id (fun h=>Nat.le_trans hsz h)
          clear HT
          obtain ⟨K1,hK1⟩:∃ G,G=nextF Ky' y3 y4:=⟨_,rfl⟩
          rw [<- hK1] at hT HK1 HO9 HO10
          have HT:=Lib.hid hT
          go_simp
          refine hK.out _ _ (hS3.late hG (fun k hk=>.inl (.inr hk))) (fun hS4=>?_)
          clear hK K hR hT hG hsz hK1
          try simp only [Act.put,tZ]
          refine wpAnyH_ready (rs:=[14]) (by kernel_rfl) (by simp) ?_
          refine (AllReadyH.cons rfl (fun K hK=>?_) AllReadyH.nil)
          ·simp only [if_pos,Region.wanted]
           refine store_bk_op 36 (.tmp 11) (.tmp 56) rfl p9 0 #[.int .i64 (stF S x.v).2.1,.slice A1 n1 c1] rfl rfl 36 #[.int .i64 0,.slice none 0 0] #[.int .i64 (stF S x.v).2.1,.slice A1 n1 c1] HZ9.out (by kernel_rfl) (by simp) (by kernel_rfl) rfl ?_
           intro y5 hX hgr hs9
           replace HZ10:=Lib.hid (HZ10.out.stays hgr (by have:=HNE.out;simp;omega))
           replace HT:=Lib.hid (HT.out.grp (GrP.of hgr) (fun k hk=>by injection hk with hk;subst hk;exact ⟨HO9.out.1,HO9.out.2.1,Nat.le_trans HB9.out.size HO9.out.2.2⟩))
           replace HR1:=Lib.hid (HR1.out.aside HZ9.out noText0 hgr)
           replace HR2:=Lib.hid (HR2.out.aside HZ9.out noText0 hgr)
           clear HZ9;have HZ9:=Lib.hid hX
           refine hK.out _ _ (hS4.more hgr (fun k hk=>by injection hk with hk;subst hk;exact .inr HO9.out.2.2)) (fun hS5=>?_)
           clear hK K hX hgr hs9
           try simp only [Act.put,tZ]
           refine wpAnyH_ready (rs:=[15]) (by kernel_rfl) (by simp) ?_
           refine (AllReadyH.cons rfl (fun K hK=>?_) AllReadyH.nil)
           ·simp only [if_pos,Region.wanted]
            refine store_bk_op 36 (.tmp 12) (.tmp 62) rfl p10 0 #[.int .i64 (stF S x.v).2.1,.slice A2 n2 c2] rfl rfl 36 #[.int .i64 0,.slice none 0 0] #[.int .i64 (stF S x.v).2.1,.slice A2 n2 c2] HZ10.out (by kernel_rfl) (by simp) (by kernel_rfl) rfl ?_
            intro y6 hX hgr hs9
            replace HZ9:=Lib.hid (HZ9.out.stays hgr (by have:=HNE.out;simp;omega))
            replace HT:=Lib.hid (HT.out.grp (GrP.of hgr) (fun k hk=>by injection hk with hk;subst hk;exact ⟨HO10.out.1,HO10.out.2.1,Nat.le_trans HB9.out.size HO10.out.2.2⟩))
            replace HR1:=Lib.hid (HR1.out.aside HZ10.out noText0 hgr)
            replace HR2:=Lib.hid (HR2.out.aside HZ10.out noText0 hgr)
            clear HZ10;have HZ10:=Lib.hid hX
            refine hK.out _ _ (hS5.more hgr (fun k hk=>by injection hk with hk;subst hk;exact .inr HO10.out.2.2)) (fun hS6=>?_)
            clear hK K hX hgr hs9
            try simp only [Act.put,tZ]
            refine wpAnyH_done (by kernel_rfl) ?_ _
            go_wp2_with fail
            go_meet
            exact ⟨p9,p10,A1,n1,c1,A2,n2,c2,F1,K1,rfl,rfl,hS6,HT.out,HZ9.out,HZ10.out,HR1.out,HR2.out,HF1.out,HK1.out⟩
       ·simp only [if_pos,Region.wanted]
        refine acell_op rfl ?_
        intro p10 y2 hp hZ hbl
        have HO10:Hid (Off F1 Ky' w9 p10):=⟨fun e=>by have:=(HT.out.b1 _ e).2;omega,fun e=>by have:=(HT.out.b2 _ e).2;omega,by have:=hS1.size;omega⟩
        have HZ10:=Lib.hid hZ
        replace HT:=Lib.hid (HT.out.below hbl)
        replace HR1:=Lib.hid (HR1.out.later hbl)
        refine hK.out _ _ (hS1.trans (GrP.ofBelow hbl)) (fun hS2=>?_)
        clear hK K hp hZ hbl
        try simp only [Act.put,tZ]
        refine wpAnyH_ready (rs:=[11,12]) (by kernel_rfl) (by simp) ?_
        refine (AllReadyH.cons rfl (fun K hK=>?_) (AllReadyH.cons rfl (fun K hK=>?_) AllReadyH.nil))
        ·go_simp
         have hsz:=hS2.size
         refine (tg_right HT.out hm0 HMM.out x (HZX.out _ hS2) HL1.out HL3.out).mono ?_
         rintro e y3 ⟨⟨A2,n2,c2,rfl,hR⟩,hT,hG⟩
         have HZ10':=Lib.hid (HZ10.out.grp hG HO10.out.2.1);have HO10':Hid (Off (F1) (nextF Ky' y2 y3) w9 p10):=⟨HO10.out.1,nextF.off HO10.out.2.1 HZ10.out.here,HO10.out.2.2⟩;clear HZ10 HO10;have HZ10:=HZ10';have HO10:=HO10';clear HZ10' HO10'
         replace HR1:=Lib.hid (HR1.out.grp hG HKL.out)
         have HR2:Hid (RetL w9.heap.size y3 A2 n2 c2 (stF S x.v).2.2):=RetL.base hR hsz
         have HK1:Hid (∀ k,nextF Ky' y2 y3 k->Ky' k ∨ w9.heap.size<=k):=fun k hk=>hk.1.imp id (fun h=>Nat.le_trans hsz h)
         clear HT
         obtain ⟨K1,hK1⟩:∃ G,G=nextF Ky' y2 y3:=⟨_,rfl⟩
         rw [<- hK1] at hT HK1 HO10
         have HT:=Lib.hid hT
         go_simp
         refine hK.out _ _ (hS2.late hG (fun k hk=>.inl (.inr hk))) (fun hS3=>?_)
         clear hK K hR hT hG hsz hK1
         try simp only [Act.put,tZ]
         refine wpAnyH_ready (rs:=[12]) (by kernel_rfl) (by simp) ?_
         refine (AllReadyH.cons rfl (fun K hK=>?_) AllReadyH.nil)
         ·simp only [if_pos,Region.wanted]
          refine acell_op rfl ?_
          intro p9 y4 hp hZ hbl
          have HO9:Hid (Off F1 K1 w9 p9):=⟨fun e=>by have:=(HT.out.b1 _ e).2;omega,fun e=>by have:=(HT.out.b2 _ e).2;omega,by have:=hS3.size;omega⟩
          have HZ9:=Lib.hid hZ
          replace HT:=Lib.hid (HT.out.below hbl)
          have HNE:Hid (p10 ≠ p9):=(by have:=HZ10.out.here;show _ ≠ _;omega);replace HZ10:=Lib.hid (HZ10.out.later hbl)
          replace HR1:=Lib.hid (HR1.out.later hbl)
          replace HR2:=Lib.hid (HR2.out.later hbl)
          refine hK.out _ _ (hS3.trans (GrP.ofBelow hbl)) (fun hS4=>?_)
          clear hK K hp hZ hbl
          try simp only [Act.put,tZ]
          refine wpAnyH_ready (rs:=[14]) (by kernel_rfl) (by simp) ?_
          refine (AllReadyH.cons rfl (fun K hK=>?_) AllReadyH.nil)
          ·simp only [if_pos,Region.wanted]
           refine store_bk_op 36 (.tmp 11) (.tmp 56) rfl p9 0 #[.int .i64 (stF S x.v).2.1,.slice A1 n1 c1] rfl rfl 36 #[.int .i64 0,.slice none 0 0] #[.int .i64 (stF S x.v).2.1,.slice A1 n1 c1] HZ9.out (by kernel_rfl) (by simp) (by kernel_rfl) rfl ?_
           intro y5 hX hgr hs9
           replace HZ10:=Lib.hid (HZ10.out.stays hgr (by have:=HNE.out;simp;omega))
           replace HT:=Lib.hid (HT.out.grp (GrP.of hgr) (fun k hk=>by injection hk with hk;subst hk;exact ⟨HO9.out.1,HO9.out.2.1,Nat.le_trans HB9.out.size HO9.out.2.2⟩))
           replace HR1:=Lib.hid (HR1.out.aside HZ9.out noText0 hgr)
           replace HR2:=Lib.hid (HR2.out.aside HZ9.out noText0 hgr)
           clear HZ9;have HZ9:=Lib.hid hX
           refine hK.out _ _ (hS4.more hgr (fun k hk=>by injection hk with hk;subst hk;exact .inr HO9.out.2.2)) (fun hS5=>?_)
           clear hK K hX hgr hs9
           try simp only [Act.put,tZ]
           refine wpAnyH_ready (rs:=[15]) (by kernel_rfl) (by simp) ?_
           refine (AllReadyH.cons rfl (fun K hK=>?_) AllReadyH.nil)
           ·simp only [if_pos,Region.wanted]
            refine store_bk_op 36 (.tmp 12) (.tmp 62) rfl p10 0 #[.int .i64 (stF S x.v).2.1,.slice A2 n2 c2] rfl rfl 36 #[.int .i64 0,.slice none 0 0] #[.int .i64 (stF S x.v).2.1,.slice A2 n2 c2] HZ10.out (by kernel_rfl) (by simp) (by kernel_rfl) rfl ?_
            intro y6 hX hgr hs9
            replace HZ9:=Lib.hid (HZ9.out.stays hgr (by have:=HNE.out;simp;omega))
            replace HT:=Lib.hid (HT.out.grp (GrP.of hgr) (fun k hk=>by injection hk with hk;subst hk;exact ⟨HO10.out.1,HO10.out.2.1,Nat.le_trans HB9.out.size HO10.out.2.2⟩))
            replace HR1:=Lib.hid (HR1.out.aside HZ10.out noText0 hgr)
            replace HR2:=Lib.hid (HR2.out.aside HZ10.out noText0 hgr)
            clear HZ10;have HZ10:=Lib.hid hX
            refine hK.out _ _ (hS5.more hgr (fun k hk=>by injection hk with hk;subst hk;exact .inr HO10.out.2.2)) (fun hS6=>?_)
            clear hK K hX hgr hs9
            try simp only [Act.put,tZ]
            refine wpAnyH_done (by kernel_rfl) ?_ _
            go_wp2_with fail
            go_meet
            exact ⟨p9,p10,A1,n1,c1,A2,n2,c2,F1,K1,rfl,rfl,hS6,HT.out,HZ9.out,HZ10.out,HR1.out,HR2.out,HF1.out,HK1.out⟩
        ·simp only [if_pos,Region.wanted]
         refine acell_op rfl ?_
         intro p9 y3 hp hZ hbl
         have HO9:Hid (Off F1 Ky' w9 p9):=⟨fun e=>by have:=(HT.out.b1 _ e).2;omega,fun e=>by have:=(HT.out.b2 _ e).2;omega,by have:=hS2.size;omega⟩
         have HZ9:=Lib.hid hZ
         replace HT:=Lib.hid (HT.out.below hbl)
         have HNE:Hid (p10 ≠ p9):=(by have:=HZ10.out.here;show _ ≠ _;omega);replace HZ10:=Lib.hid (HZ10.out.later hbl)
         replace HR1:=Lib.hid (HR1.out.later hbl)
         refine hK.out _ _ (hS2.trans (GrP.ofBelow hbl)) (fun hS3=>?_)
         clear hK K hp hZ hbl
         try simp only [Act.put,tZ]
         refine wpAnyH_ready (rs:=[11]) (by kernel_rfl) (by simp) ?_
         refine (AllReadyH.cons rfl (fun K hK=>?_) AllReadyH.nil)
         ·go_simp
          have hsz:=hS3.size
          refine (tg_right HT.out hm0 HMM.out x (HZX.out _ hS3) HL1.out HL3.out).mono ?_
          rintro e y4 ⟨⟨A2,n2,c2,rfl,hR⟩,hT,hG⟩
          have HZ9':=Lib.hid (HZ9.out.grp hG HO9.out.2.1);have HO9':Hid (Off (F1) (nextF Ky' y3 y4) w9 p9):=⟨HO9.out.1,nextF.off HO9.out.2.1 HZ9.out.here,HO9.out.2.2⟩;clear HZ9 HO9;have HZ9:=HZ9';have HO9:=HO9';clear HZ9' HO9'
          have HZ10':=Lib.hid (HZ10.out.grp hG HO10.out.2.1);have HO10':Hid (Off (F1) (nextF Ky' y3 y4) w9 p10):=⟨HO10.out.1,nextF.off HO10.out.2.1 HZ10.out.here,HO10.out.2.2⟩;clear HZ10 HO10;have HZ10:=HZ10';have HO10:=HO10';clear HZ10' HO10'
          replace HR1:=Lib.hid (HR1.out.grp hG HKL.out)
          have HR2:Hid (RetL w9.heap.size y4 A2 n2 c2 (stF S x.v).2.2):=RetL.base hR hsz
          have HK1:Hid (∀ k,nextF Ky' y3 y4 k->Ky' k ∨ w9.heap.size<=k):=fun k hk=>hk.1.imp id (fun h=>Nat.le_trans hsz h)
          clear HT
          obtain ⟨K1,hK1⟩:∃ G,G=nextF Ky' y3 y4:=⟨_,rfl⟩
          rw [<- hK1] at hT HK1 HO9 HO10
          have HT:=Lib.hid hT
          go_simp
          refine hK.out _ _ (hS3.late hG (fun k hk=>.inl (.inr hk))) (fun hS4=>?_)
          clear hK K hR hT hG hsz hK1
          try simp only [Act.put,tZ]
          refine wpAnyH_ready (rs:=[14]) (by kernel_rfl) (by simp) ?_
          refine (AllReadyH.cons rfl (fun K hK=>?_) AllReadyH.nil)
          ·simp only [if_pos,Region.wanted]
           refine store_bk_op 36 (.tmp 11) (.tmp 56) rfl p9 0 #[.int .i64 (stF S x.v).2.1,.slice A1 n1 c1] rfl rfl 36 #[.int .i64 0,.slice none 0 0] #[.int .i64 (stF S x.v).2.1,.slice A1 n1 c1] HZ9.out (by kernel_rfl) (by simp) (by kernel_rfl) rfl ?_
           intro y5 hX hgr hs9
           replace HZ10:=Lib.hid (HZ10.out.stays hgr (by have:=HNE.out;simp;omega))
           replace HT:=Lib.hid (HT.out.grp (GrP.of hgr) (fun k hk=>by injection hk with hk;subst hk;exact ⟨HO9.out.1,HO9.out.2.1,Nat.le_trans HB9.out.size HO9.out.2.2⟩))
           replace HR1:=Lib.hid (HR1.out.aside HZ9.out noText0 hgr)
           replace HR2:=Lib.hid (HR2.out.aside HZ9.out noText0 hgr)
           clear HZ9;have HZ9:=Lib.hid hX
           refine hK.out _ _ (hS4.more hgr (fun k hk=>by injection hk with hk;subst hk;exact .inr HO9.out.2.2)) (fun hS5=>?_)
           clear hK K hX hgr hs9
           try simp only [Act.put,tZ]
           refine wpAnyH_ready (rs:=[15]) (by kernel_rfl) (by simp) ?_
           refine (AllReadyH.cons rfl (fun K hK=>?_) AllReadyH.nil)
           ·simp only [if_pos,Region.wanted]
            refine store_bk_op 36 (.tmp 12) (.tmp 62) rfl p10 0 #[.int .i64 (stF S x.v).2.1,.slice A2 n2 c2] rfl rfl 36 #[.int .i64 0,.slice none 0 0] #[.int .i64 (stF S x.v).2.1,.slice A2 n2 c2] HZ10.out (by kernel_rfl) (by simp) (by kernel_rfl) rfl ?_
            intro y6 hX hgr hs9
            replace HZ9:=Lib.hid (HZ9.out.stays hgr (by have:=HNE.out;simp;omega))
            replace HT:=Lib.hid (HT.out.grp (GrP.of hgr) (fun k hk=>by injection hk with hk;subst hk;exact ⟨HO10.out.1,HO10.out.2.1,Nat.le_trans HB9.out.size HO10.out.2.2⟩))
            replace HR1:=Lib.hid (HR1.out.aside HZ10.out noText0 hgr)
            replace HR2:=Lib.hid (HR2.out.aside HZ10.out noText0 hgr)
            clear HZ10;have HZ10:=Lib.hid hX
            refine hK.out _ _ (hS5.more hgr (fun k hk=>by injection hk with hk;subst hk;exact .inr HO10.out.2.2)) (fun hS6=>?_)
            clear hK K hX hgr hs9
            try simp only [Act.put,tZ]
            refine wpAnyH_done (by kernel_rfl) ?_ _
            go_wp2_with fail
            go_meet
            exact ⟨p9,p10,A1,n1,c1,A2,n2,c2,F1,K1,rfl,rfl,hS6,HT.out,HZ9.out,HZ10.out,HR1.out,HR2.out,HF1.out,HK1.out⟩
      ·simp only [if_pos,Region.wanted]
       refine acell_op rfl ?_
       intro p9 y1 hp hZ hbl
       have HO9:Hid (Off F Ky' w9 p9):=⟨fun e=>by have:=(HT.out.b1 _ e).2;omega,fun e=>by have:=(HT.out.b2 _ e).2;omega,by have:=hS0.size;omega⟩
       have HZ9:=Lib.hid hZ
       replace HT:=Lib.hid (HT.out.below hbl)
       refine hK.out _ _ (hS0.trans (GrP.ofBelow hbl)) (fun hS1=>?_)
       clear hK K hp hZ hbl
       try simp only [Act.put,tZ]
       refine wpAnyH_ready (rs:=[5,13]) (by kernel_rfl) (by simp) ?_
       refine (AllReadyH.cons rfl (fun K hK=>?_) (AllReadyH.cons rfl (fun K hK=>?_) AllReadyH.nil))
       ·go_simp
        have hsz:=hS1.size
        refine (tg_left HT.out hm0 HMM.out x (HZX.out _ hS1) HL1.out HL3.out).mono ?_
        rintro e y2 ⟨⟨A1,n1,c1,rfl,hR⟩,hT,hG⟩
        have HZ9':=Lib.hid (HZ9.out.grp hG HO9.out.1);have HO9':Hid (Off (nextF F y1 y2) (Ky') w9 p9):=⟨nextF.off HO9.out.1 HZ9.out.here,HO9.out.2.1,HO9.out.2.2⟩;clear HZ9 HO9;have HZ9:=HZ9';have HO9:=HO9';clear HZ9' HO9'
        have HR1:Hid (RetL w9.heap.size y2 A1 n1 c1 (stF S x.v).2.2):=RetL.base hR hsz
        have HF1:Hid (∀ k,nextF F y1 y2 k->F k ∨ w9.heap.size<=k):=fun k hk=>hk.1.imp id (fun h=>Nat.le_trans hsz h)
        clear HT
        obtain ⟨F1,hF1⟩:∃ G,G=nextF F y1 y2:=⟨_,rfl⟩
        rw [<- hF1] at hT HF1 HO9
        have HT:=Lib.hid hT
        go_simp
        refine hK.out _ _ (hS1.late hG (fun k hk=>.inl (.inl hk))) (fun hS2=>?_)
        clear hK K hR hT hG hsz hF1
        try simp only [Act.put,tZ]
        refine wpAnyH_ready (rs:=[11,13]) (by kernel_rfl) (by simp) ?_
        refine (AllReadyH.cons rfl (fun K hK=>?_) (AllReadyH.cons rfl (fun K hK=>?_) AllReadyH.nil))
        ·go_simp
         have hsz:=hS2.size
         refine (tg_right HT.out hm0 HMM.out x (HZX.out _ hS2) HL1.out HL3.out).mono ?_
         rintro e y3 ⟨⟨A2,n2,c2,rfl,hR⟩,hT,hG⟩
         have HZ9':=Lib.hid (HZ9.out.grp hG HO9.out.2.1);have HO9':Hid (Off (F1) (nextF Ky' y2 y3) w9 p9):=⟨HO9.out.1,nextF.off HO9.out.2.1 HZ9.out.here,HO9.out.2.2⟩;clear HZ9 HO9;have HZ9:=HZ9';have HO9:=HO9';clear HZ9' HO9'
         replace HR1:=Lib.hid (HR1.out.grp hG HKL.out)
         have HR2:Hid (RetL w9.heap.size y3 A2 n2 c2 (stF S x.v).2.2):=RetL.base hR hsz
         have HK1:Hid (∀ k,nextF Ky' y2 y3 k->Ky' k ∨ w9.heap.size<=k):=fun k hk=>hk.1.imp id (fun h=>Nat.le_trans hsz h)
         clear HT
         obtain ⟨K1,hK1⟩:∃ G,G=nextF Ky' y2 y3:=⟨_,rfl⟩
         rw [<- hK1] at hT HK1 HO9
         have HT:=Lib.hid hT
         go_simp
         refine hK.out _ _ (hS2.late hG (fun k hk=>.inl (.inr hk))) (fun hS3=>?_)
         clear hK K hR hT hG hsz hK1
         try simp only [Act.put,tZ]
         refine wpAnyH_ready (rs:=[13]) (by kernel_rfl) (by simp) ?_
         refine (AllReadyH.cons rfl (fun K hK=>?_) AllReadyH.nil)
         ·simp only [if_pos,Region.wanted]
          refine acell_op rfl ?_
          intro p10 y4 hp hZ hbl
          have HO10:Hid (Off F1 K1 w9 p10):=⟨fun e=>by have:=(HT.out.b1 _ e).2;omega,fun e=>by have:=(HT.out.b2 _ e).2;omega,by have:=hS3.size;omega⟩
          have HZ10:=Lib.hid hZ
          replace HT:=Lib.hid (HT.out.below hbl)
          have HNE:Hid (p9 ≠ p10):=(by have:=HZ9.out.here;show _ ≠ _;omega);replace HZ9:=Lib.hid (HZ9.out.later hbl)
          replace HR1:=Lib.hid (HR1.out.later hbl)
          replace HR2:=Lib.hid (HR2.out.later hbl)
          refine hK.out _ _ (hS3.trans (GrP.ofBelow hbl)) (fun hS4=>?_)
          clear hK K hp hZ hbl
          try simp only [Act.put,tZ]
          refine wpAnyH_ready (rs:=[14]) (by kernel_rfl) (by simp) ?_
          refine (AllReadyH.cons rfl (fun K hK=>?_) AllReadyH.nil)
          ·simp only [if_pos,Region.wanted]
           refine store_bk_op 36 (.tmp 11) (.tmp 56) rfl p9 0 #[.int .i64 (stF S x.v).2.1,.slice A1 n1 c1] rfl rfl 36 #[.int .i64 0,.slice none 0 0] #[.int .i64 (stF S x.v).2.1,.slice A1 n1 c1] HZ9.out (by kernel_rfl) (by simp) (by kernel_rfl) rfl ?_
           intro y5 hX hgr hs9
           replace HZ10:=Lib.hid (HZ10.out.stays hgr (by have:=HNE.out;simp;omega))
           replace HT:=Lib.hid (HT.out.grp (GrP.of hgr) (fun k hk=>by injection hk with hk;subst hk;exact ⟨HO9.out.1,HO9.out.2.1,Nat.le_trans HB9.out.size HO9.out.2.2⟩))
           replace HR1:=Lib.hid (HR1.out.aside HZ9.out noText0 hgr)
           replace HR2:=Lib.hid (HR2.out.aside HZ9.out noText0 hgr)
           clear HZ9;have HZ9:=Lib.hid hX
           refine hK.out _ _ (hS4.more hgr (fun k hk=>by injection hk with hk;subst hk;exact .inr HO9.out.2.2)) (fun hS5=>?_)
           clear hK K hX hgr hs9
           try simp only [Act.put,tZ]
           refine wpAnyH_ready (rs:=[15]) (by kernel_rfl) (by simp) ?_
           refine (AllReadyH.cons rfl (fun K hK=>?_) AllReadyH.nil)
           ·simp only [if_pos,Region.wanted]
            refine store_bk_op 36 (.tmp 12) (.tmp 62) rfl p10 0 #[.int .i64 (stF S x.v).2.1,.slice A2 n2 c2] rfl rfl 36 #[.int .i64 0,.slice none 0 0] #[.int .i64 (stF S x.v).2.1,.slice A2 n2 c2] HZ10.out (by kernel_rfl) (by simp) (by kernel_rfl) rfl ?_
            intro y6 hX hgr hs9
            replace HZ9:=Lib.hid (HZ9.out.stays hgr (by have:=HNE.out;simp;omega))
            replace HT:=Lib.hid (HT.out.grp (GrP.of hgr) (fun k hk=>by injection hk with hk;subst hk;exact ⟨HO10.out.1,HO10.out.2.1,Nat.le_trans HB9.out.size HO10.out.2.2⟩))
            replace HR1:=Lib.hid (HR1.out.aside HZ10.out noText0 hgr)
            replace HR2:=Lib.hid (HR2.out.aside HZ10.out noText0 hgr)
            clear HZ10;have HZ10:=Lib.hid hX
            refine hK.out _ _ (hS5.more hgr (fun k hk=>by injection hk with hk;subst hk;exact .inr HO10.out.2.2)) (fun hS6=>?_)
            clear hK K hX hgr hs9
            try simp only [Act.put,tZ]
            refine wpAnyH_done (by kernel_rfl) ?_ _
            go_wp2_with fail
            go_meet
            exact ⟨p9,p10,A1,n1,c1,A2,n2,c2,F1,K1,rfl,rfl,hS6,HT.out,HZ9.out,HZ10.out,HR1.out,HR2.out,HF1.out,HK1.out⟩
        ·simp only [if_pos,Region.wanted]
         refine acell_op rfl ?_
         intro p10 y3 hp hZ hbl
         have HO10:Hid (Off F1 Ky' w9 p10):=⟨fun e=>by have:=(HT.out.b1 _ e).2;omega,fun e=>by have:=(HT.out.b2 _ e).2;omega,by have:=hS2.size;omega⟩
         have HZ10:=Lib.hid hZ
         replace HT:=Lib.hid (HT.out.below hbl)
         have HNE:Hid (p9 ≠ p10):=(by have:=HZ9.out.here;show _ ≠ _;omega);replace HZ9:=Lib.hid (HZ9.out.later hbl)
         replace HR1:=Lib.hid (HR1.out.later hbl)
         refine hK.out _ _ (hS2.trans (GrP.ofBelow hbl)) (fun hS3=>?_)
         clear hK K hp hZ hbl
         try simp only [Act.put,tZ]
         refine wpAnyH_ready (rs:=[11]) (by kernel_rfl) (by simp) ?_
         refine (AllReadyH.cons rfl (fun K hK=>?_) AllReadyH.nil)
         ·go_simp
          have hsz:=hS3.size
          refine (tg_right HT.out hm0 HMM.out x (HZX.out _ hS3) HL1.out HL3.out).mono ?_
          rintro e y4 ⟨⟨A2,n2,c2,rfl,hR⟩,hT,hG⟩
          have HZ9':=Lib.hid (HZ9.out.grp hG HO9.out.2.1);have HO9':Hid (Off (F1) (nextF Ky' y3 y4) w9 p9):=⟨HO9.out.1,nextF.off HO9.out.2.1 HZ9.out.here,HO9.out.2.2⟩;clear HZ9 HO9;have HZ9:=HZ9';have HO9:=HO9';clear HZ9' HO9'
          have HZ10':=Lib.hid (HZ10.out.grp hG HO10.out.2.1);have HO10':Hid (Off (F1) (nextF Ky' y3 y4) w9 p10):=⟨HO10.out.1,nextF.off HO10.out.2.1 HZ10.out.here,HO10.out.2.2⟩;clear HZ10 HO10;have HZ10:=HZ10';have HO10:=HO10';clear HZ10' HO10'
          replace HR1:=Lib.hid (HR1.out.grp hG HKL.out)
          have HR2:Hid (RetL w9.heap.size y4 A2 n2 c2 (stF S x.v).2.2):=RetL.base hR hsz
          have HK1:Hid (∀ k,nextF Ky' y3 y4 k->Ky' k ∨ w9.heap.size<=k):=fun k hk=>hk.1.imp id (fun h=>Nat.le_trans hsz h)
          clear HT
          obtain ⟨K1,hK1⟩:∃ G,G=nextF Ky' y3 y4:=⟨_,rfl⟩
          rw [<- hK1] at hT HK1 HO9 HO10
          have HT:=Lib.hid hT
          go_simp
          refine hK.out _ _ (hS3.late hG (fun k hk=>.inl (.inr hk))) (fun hS4=>?_)
          clear hK K hR hT hG hsz hK1
          try simp only [Act.put,tZ]
          refine wpAnyH_ready (rs:=[14]) (by kernel_rfl) (by simp) ?_
          refine (AllReadyH.cons rfl (fun K hK=>?_) AllReadyH.nil)
          ·simp only [if_pos,Region.wanted]
           refine store_bk_op 36 (.tmp 11) (.tmp 56) rfl p9 0 #[.int .i64 (stF S x.v).2.1,.slice A1 n1 c1] rfl rfl 36 #[.int .i64 0,.slice none 0 0] #[.int .i64 (stF S x.v).2.1,.slice A1 n1 c1] HZ9.out (by kernel_rfl) (by simp) (by kernel_rfl) rfl ?_
           intro y5 hX hgr hs9
           replace HZ10:=Lib.hid (HZ10.out.stays hgr (by have:=HNE.out;simp;omega))
           replace HT:=Lib.hid (HT.out.grp (GrP.of hgr) (fun k hk=>by injection hk with hk;subst hk;exact ⟨HO9.out.1,HO9.out.2.1,Nat.le_trans HB9.out.size HO9.out.2.2⟩))
           replace HR1:=Lib.hid (HR1.out.aside HZ9.out noText0 hgr)
           replace HR2:=Lib.hid (HR2.out.aside HZ9.out noText0 hgr)
           clear HZ9;have HZ9:=Lib.hid hX
           refine hK.out _ _ (hS4.more hgr (fun k hk=>by injection hk with hk;subst hk;exact .inr HO9.out.2.2)) (fun hS5=>?_)
           clear hK K hX hgr hs9
           try simp only [Act.put,tZ]
           refine wpAnyH_ready (rs:=[15]) (by kernel_rfl) (by simp) ?_
           refine (AllReadyH.cons rfl (fun K hK=>?_) AllReadyH.nil)
           ·simp only [if_pos,Region.wanted]
            refine store_bk_op 36 (.tmp 12) (.tmp 62) rfl p10 0 #[.int .i64 (stF S x.v).2.1,.slice A2 n2 c2] rfl rfl 36 #[.int .i64 0,.slice none 0 0] #[.int .i64 (stF S x.v).2.1,.slice A2 n2 c2] HZ10.out (by kernel_rfl) (by simp) (by kernel_rfl) rfl ?_
            intro y6 hX hgr hs9
            replace HZ9:=Lib.hid (HZ9.out.stays hgr (by have:=HNE.out;simp;omega))
            replace HT:=Lib.hid (HT.out.grp (GrP.of hgr) (fun k hk=>by injection hk with hk;subst hk;exact ⟨HO10.out.1,HO10.out.2.1,Nat.le_trans HB9.out.size HO10.out.2.2⟩))
            replace HR1:=Lib.hid (HR1.out.aside HZ10.out noText0 hgr)
            replace HR2:=Lib.hid (HR2.out.aside HZ10.out noText0 hgr)
            clear HZ10;have HZ10:=Lib.hid hX
            refine hK.out _ _ (hS5.more hgr (fun k hk=>by injection hk with hk;subst hk;exact .inr HO10.out.2.2)) (fun hS6=>?_)
            clear hK K hX hgr hs9
            try simp only [Act.put,tZ]
            refine wpAnyH_done (by kernel_rfl) ?_ _
            go_wp2_with fail
            go_meet
            exact ⟨p9,p10,A1,n1,c1,A2,n2,c2,F1,K1,rfl,rfl,hS6,HT.out,HZ9.out,HZ10.out,HR1.out,HR2.out,HF1.out,HK1.out⟩
       ·simp only [if_pos,Region.wanted]
        refine acell_op rfl ?_
        intro p10 y2 hp hZ hbl
        have HO10:Hid (Off F Ky' w9 p10):=⟨fun e=>by have:=(HT.out.b1 _ e).2;omega,fun e=>by have:=(HT.out.b2 _ e).2;omega,by have:=hS1.size;omega⟩
        have HZ10:=Lib.hid hZ
        replace HT:=Lib.hid (HT.out.below hbl)
        have HNE:Hid (p9 ≠ p10):=(by have:=HZ9.out.here;show _ ≠ _;omega);replace HZ9:=Lib.hid (HZ9.out.later hbl)
        refine hK.out _ _ (hS1.trans (GrP.ofBelow hbl)) (fun hS2=>?_)
        clear hK K hp hZ hbl
        try simp only [Act.put,tZ]
        refine wpAnyH_ready (rs:=[5]) (by kernel_rfl) (by simp) ?_
        refine (AllReadyH.cons rfl (fun K hK=>?_) AllReadyH.nil)
        ·go_simp
         have hsz:=hS2.size
         refine (tg_left HT.out hm0 HMM.out x (HZX.out _ hS2) HL1.out HL3.out).mono ?_
         rintro e y3 ⟨⟨A1,n1,c1,rfl,hR⟩,hT,hG⟩
         have HZ9':=Lib.hid (HZ9.out.grp hG HO9.out.1);have HO9':Hid (Off (nextF F y2 y3) (Ky') w9 p9):=⟨nextF.off HO9.out.1 HZ9.out.here,HO9.out.2.1,HO9.out.2.2⟩;clear HZ9 HO9;have HZ9:=HZ9';have HO9:=HO9';clear HZ9' HO9'
         have HZ10':=Lib.hid (HZ10.out.grp hG HO10.out.1);have HO10':Hid (Off (nextF F y2 y3) (Ky') w9 p10):=⟨nextF.off HO10.out.1 HZ10.out.here,HO10.out.2.1,HO10.out.2.2⟩;clear HZ10 HO10;have HZ10:=HZ10';have HO10:=HO10';clear HZ10' HO10'
         have HR1:Hid (RetL w9.heap.size y3 A1 n1 c1 (stF S x.v).2.2):=RetL.base hR hsz
         have HF1:Hid (∀ k,nextF F y2 y3 k->F k ∨ w9.heap.size<=k):=fun k hk=>hk.1.imp id (fun h=>Nat.le_trans hsz h)
         clear HT
         obtain ⟨F1,hF1⟩:∃ G,G=nextF F y2 y3:=⟨_,rfl⟩
         rw [<- hF1] at hT HF1 HO9 HO10
         have HT:=Lib.hid hT
         go_simp
         refine hK.out _ _ (hS2.late hG (fun k hk=>.inl (.inl hk))) (fun hS3=>?_)
         clear hK K hR hT hG hsz hF1
         try simp only [Act.put,tZ]
         refine wpAnyH_ready (rs:=[11]) (by kernel_rfl) (by simp) ?_
         refine (AllReadyH.cons rfl (fun K hK=>?_) AllReadyH.nil)
         ·go_simp
          have hsz:=hS3.size
          refine (tg_right HT.out hm0 HMM.out x (HZX.out _ hS3) HL1.out HL3.out).mono ?_
          rintro e y4 ⟨⟨A2,n2,c2,rfl,hR⟩,hT,hG⟩
          have HZ9':=Lib.hid (HZ9.out.grp hG HO9.out.2.1);have HO9':Hid (Off (F1) (nextF Ky' y3 y4) w9 p9):=⟨HO9.out.1,nextF.off HO9.out.2.1 HZ9.out.here,HO9.out.2.2⟩;clear HZ9 HO9;have HZ9:=HZ9';have HO9:=HO9';clear HZ9' HO9'
          have HZ10':=Lib.hid (HZ10.out.grp hG HO10.out.2.1);have HO10':Hid (Off (F1) (nextF Ky' y3 y4) w9 p10):=⟨HO10.out.1,nextF.off HO10.out.2.1 HZ10.out.here,HO10.out.2.2⟩;clear HZ10 HO10;have HZ10:=HZ10';have HO10:=HO10';clear HZ10' HO10'
          replace HR1:=Lib.hid (HR1.out.grp hG HKL.out)
          have HR2:Hid (RetL w9.heap.size y4 A2 n2 c2 (stF S x.v).2.2):=RetL.base hR hsz
          have HK1:Hid (∀ k,nextF Ky' y3 y4 k->Ky' k ∨ w9.heap.size<=k):=fun k hk=>hk.1.imp id (fun h=>Nat.le_trans hsz h)
          clear HT
          obtain ⟨K1,hK1⟩:∃ G,G=nextF Ky' y3 y4:=⟨_,rfl⟩
          rw [<- hK1] at hT HK1 HO9 HO10
          have HT:=Lib.hid hT
          go_simp
          refine hK.out _ _ (hS3.late hG (fun k hk=>.inl (.inr hk))) (fun hS4=>?_)
          clear hK K hR hT hG hsz hK1
          try simp only [Act.put,tZ]
          refine wpAnyH_ready (rs:=[14]) (by kernel_rfl) (by simp) ?_
          refine (AllReadyH.cons rfl (fun K hK=>?_) AllReadyH.nil)
          ·simp only [if_pos,Region.wanted]
           refine store_bk_op 36 (.tmp 11) (.tmp 56) rfl p9 0 #[.int .i64 (stF S x.v).2.1,.slice A1 n1 c1] rfl rfl 36 #[.int .i64 0,.slice none 0 0] #[.int .i64 (stF S x.v).2.1,.slice A1 n1 c1] HZ9.out (by kernel_rfl) (by simp) (by kernel_rfl) rfl ?_
           intro y5 hX hgr hs9
           replace HZ10:=Lib.hid (HZ10.out.stays hgr (by have:=HNE.out;simp;omega))
           replace HT:=Lib.hid (HT.out.grp (GrP.of hgr) (fun k hk=>by injection hk with hk;subst hk;exact ⟨HO9.out.1,HO9.out.2.1,Nat.le_trans HB9.out.size HO9.out.2.2⟩))
           replace HR1:=Lib.hid (HR1.out.aside HZ9.out noText0 hgr)
           replace HR2:=Lib.hid (HR2.out.aside HZ9.out noText0 hgr)
           clear HZ9;have HZ9:=Lib.hid hX
           refine hK.out _ _ (hS4.more hgr (fun k hk=>by injection hk with hk;subst hk;exact .inr HO9.out.2.2)) (fun hS5=>?_)
           clear hK K hX hgr hs9
           try simp only [Act.put,tZ]
           refine wpAnyH_ready (rs:=[15]) (by kernel_rfl) (by simp) ?_
           refine (AllReadyH.cons rfl (fun K hK=>?_) AllReadyH.nil)
           ·simp only [if_pos,Region.wanted]
            refine store_bk_op 36 (.tmp 12) (.tmp 62) rfl p10 0 #[.int .i64 (stF S x.v).2.1,.slice A2 n2 c2] rfl rfl 36 #[.int .i64 0,.slice none 0 0] #[.int .i64 (stF S x.v).2.1,.slice A2 n2 c2] HZ10.out (by kernel_rfl) (by simp) (by kernel_rfl) rfl ?_
            intro y6 hX hgr hs9
            replace HZ9:=Lib.hid (HZ9.out.stays hgr (by have:=HNE.out;simp;omega))
            replace HT:=Lib.hid (HT.out.grp (GrP.of hgr) (fun k hk=>by injection hk with hk;subst hk;exact ⟨HO10.out.1,HO10.out.2.1,Nat.le_trans HB9.out.size HO10.out.2.2⟩))
            replace HR1:=Lib.hid (HR1.out.aside HZ10.out noText0 hgr)
            replace HR2:=Lib.hid (HR2.out.aside HZ10.out noText0 hgr)
            clear HZ10;have HZ10:=Lib.hid hX
            refine hK.out _ _ (hS5.more hgr (fun k hk=>by injection hk with hk;subst hk;exact .inr HO10.out.2.2)) (fun hS6=>?_)
            clear hK K hX hgr hs9
            try simp only [Act.put,tZ]
            refine wpAnyH_done (by kernel_rfl) ?_ _
            go_wp2_with fail
            go_meet
            exact ⟨p9,p10,A1,n1,c1,A2,n2,c2,F1,K1,rfl,rfl,hS6,HT.out,HZ9.out,HZ10.out,HR1.out,HR2.out,HF1.out,HK1.out⟩
      ·simp only [if_pos,Region.wanted]
       refine acell_op rfl ?_
       intro p10 y1 hp hZ hbl
       have HO10:Hid (Off F Ky' w9 p10):=⟨fun e=>by have:=(HT.out.b1 _ e).2;omega,fun e=>by have:=(HT.out.b2 _ e).2;omega,by have:=hS0.size;omega⟩
       have HZ10:=Lib.hid hZ
       replace HT:=Lib.hid (HT.out.below hbl)
       refine hK.out _ _ (hS0.trans (GrP.ofBelow hbl)) (fun hS1=>?_)
       clear hK K hp hZ hbl
       try simp only [Act.put,tZ]
       refine wpAnyH_ready (rs:=[5,12]) (by kernel_rfl) (by simp) ?_
       refine (AllReadyH.cons rfl (fun K hK=>?_) (AllReadyH.cons rfl (fun K hK=>?_) AllReadyH.nil))
       ·go_simp
        have hsz:=hS1.size
        refine (tg_left HT.out hm0 HMM.out x (HZX.out _ hS1) HL1.out HL3.out).mono ?_
        rintro e y2 ⟨⟨A1,n1,c1,rfl,hR⟩,hT,hG⟩
        have HZ10':=Lib.hid (HZ10.out.grp hG HO10.out.1);have HO10':Hid (Off (nextF F y1 y2) (Ky') w9 p10):=⟨nextF.off HO10.out.1 HZ10.out.here,HO10.out.2.1,HO10.out.2.2⟩;clear HZ10 HO10;have HZ10:=HZ10';have HO10:=HO10';clear HZ10' HO10'
        have HR1:Hid (RetL w9.heap.size y2 A1 n1 c1 (stF S x.v).2.2):=RetL.base hR hsz
        have HF1:Hid (∀ k,nextF F y1 y2 k->F k ∨ w9.heap.size<=k):=fun k hk=>hk.1.imp id (fun h=>Nat.le_trans hsz h)
        clear HT
        obtain ⟨F1,hF1⟩:∃ G,G=nextF F y1 y2:=⟨_,rfl⟩
        rw [<- hF1] at hT HF1 HO10
        have HT:=Lib.hid hT
        go_simp
        refine hK.out _ _ (hS1.late hG (fun k hk=>.inl (.inl hk))) (fun hS2=>?_)
        clear hK K hR hT hG hsz hF1
        try simp only [Act.put,tZ]
        refine wpAnyH_ready (rs:=[11,12]) (by kernel_rfl) (by simp) ?_
        refine (AllReadyH.cons rfl (fun K hK=>?_) (AllReadyH.cons rfl (fun K hK=>?_) AllReadyH.nil))
        ·go_simp
         have hsz:=hS2.size
         refine (tg_right HT.out hm0 HMM.out x (HZX.out _ hS2) HL1.out HL3.out).mono ?_
         rintro e y3 ⟨⟨A2,n2,c2,rfl,hR⟩,hT,hG⟩
         have HZ10':=Lib.hid (HZ10.out.grp hG HO10.out.2.1);have HO10':Hid (Off (F1) (nextF Ky' y2 y3) w9 p10):=⟨HO10.out.1,nextF.off HO10.out.2.1 HZ10.out.here,HO10.out.2.2⟩;clear HZ10 HO10;have HZ10:=HZ10';have HO10:=HO10';clear HZ10' HO10'
         replace HR1:=Lib.hid (HR1.out.grp hG HKL.out)
         have HR2:Hid (RetL w9.heap.size y3 A2 n2 c2 (stF S x.v).2.2):=RetL.base hR hsz
         have HK1:Hid (∀ k,nextF Ky' y2 y3 k->Ky' k ∨ w9.heap.size<=k):=fun k hk=>hk.1.imp id (fun h=>Nat.le_trans hsz h)
         clear HT
         obtain ⟨K1,hK1⟩:∃ G,G=nextF Ky' y2 y3:=⟨_,rfl⟩
         rw [<- hK1] at hT HK1 HO10
         have HT:=Lib.hid hT
         go_simp
         refine hK.out _ _ (hS2.late hG (fun k hk=>.inl (.inr hk))) (fun hS3=>?_)
         clear hK K hR hT hG hsz hK1
         try simp only [Act.put,tZ]
         refine wpAnyH_ready (rs:=[12]) (by kernel_rfl) (by simp) ?_
         refine (AllReadyH.cons rfl (fun K hK=>?_) AllReadyH.nil)
         ·simp only [if_pos,Region.wanted]
          refine acell_op rfl ?_
          intro p9 y4 hp hZ hbl
          have HO9:Hid (Off F1 K1 w9 p9):=⟨fun e=>by have:=(HT.out.b1 _ e).2;omega,fun e=>by have:=(HT.out.b2 _ e).2;omega,by have:=hS3.size;omega⟩
          have HZ9:=Lib.hid hZ
          replace HT:=Lib.hid (HT.out.below hbl)
          have HNE:Hid (p10 ≠ p9):=(by have:=HZ10.out.here;show _ ≠ _;omega);replace HZ10:=Lib.hid (HZ10.out.later hbl)
          replace HR1:=Lib.hid (HR1.out.later hbl)
          replace HR2:=Lib.hid (HR2.out.later hbl)
          refine hK.out _ _ (hS3.trans (GrP.ofBelow hbl)) (fun hS4=>?_)
          clear hK K hp hZ hbl
          try simp only [Act.put,tZ]
          refine wpAnyH_ready (rs:=[14]) (by kernel_rfl) (by simp) ?_
          refine (AllReadyH.cons rfl (fun K hK=>?_) AllReadyH.nil)
          ·simp only [if_pos,Region.wanted]
           refine store_bk_op 36 (.tmp 11) (.tmp 56) rfl p9 0 #[.int .i64 (stF S x.v).2.1,.slice A1 n1 c1] rfl rfl 36 #[.int .i64 0,.slice none 0 0] #[.int .i64 (stF S x.v).2.1,.slice A1 n1 c1] HZ9.out (by kernel_rfl) (by simp) (by kernel_rfl) rfl ?_
           intro y5 hX hgr hs9
           replace HZ10:=Lib.hid (HZ10.out.stays hgr (by have:=HNE.out;simp;omega))
           replace HT:=Lib.hid (HT.out.grp (GrP.of hgr) (fun k hk=>by injection hk with hk;subst hk;exact ⟨HO9.out.1,HO9.out.2.1,Nat.le_trans HB9.out.size HO9.out.2.2⟩))
           replace HR1:=Lib.hid (HR1.out.aside HZ9.out noText0 hgr)
           replace HR2:=Lib.hid (HR2.out.aside HZ9.out noText0 hgr)
           clear HZ9;have HZ9:=Lib.hid hX
           refine hK.out _ _ (hS4.more hgr (fun k hk=>by injection hk with hk;subst hk;exact .inr HO9.out.2.2)) (fun hS5=>?_)
           clear hK K hX hgr hs9
           try simp only [Act.put,tZ]
           refine wpAnyH_ready (rs:=[15]) (by kernel_rfl) (by simp) ?_
           refine (AllReadyH.cons rfl (fun K hK=>?_) AllReadyH.nil)
           ·simp only [if_pos,Region.wanted]
            refine store_bk_op 36 (.tmp 12) (.tmp 62) rfl p10 0 #[.int .i64 (stF S x.v).2.1,.slice A2 n2 c2] rfl rfl 36 #[.int .i64 0,.slice none 0 0] #[.int .i64 (stF S x.v).2.1,.slice A2 n2 c2] HZ10.out (by kernel_rfl) (by simp) (by kernel_rfl) rfl ?_
            intro y6 hX hgr hs9
            replace HZ9:=Lib.hid (HZ9.out.stays hgr (by have:=HNE.out;simp;omega))
            replace HT:=Lib.hid (HT.out.grp (GrP.of hgr) (fun k hk=>by injection hk with hk;subst hk;exact ⟨HO10.out.1,HO10.out.2.1,Nat.le_trans HB9.out.size HO10.out.2.2⟩))
            replace HR1:=Lib.hid (HR1.out.aside HZ10.out noText0 hgr)
            replace HR2:=Lib.hid (HR2.out.aside HZ10.out noText0 hgr)
            clear HZ10;have HZ10:=Lib.hid hX
            refine hK.out _ _ (hS5.more hgr (fun k hk=>by injection hk with hk;subst hk;exact .inr HO10.out.2.2)) (fun hS6=>?_)
            clear hK K hX hgr hs9
            try simp only [Act.put,tZ]
            refine wpAnyH_done (by kernel_rfl) ?_ _
            go_wp2_with fail
            go_meet
            exact ⟨p9,p10,A1,n1,c1,A2,n2,c2,F1,K1,rfl,rfl,hS6,HT.out,HZ9.out,HZ10.out,HR1.out,HR2.out,HF1.out,HK1.out⟩
        ·simp only [if_pos,Region.wanted]
         refine acell_op rfl ?_
         intro p9 y3 hp hZ hbl
         have HO9:Hid (Off F1 Ky' w9 p9):=⟨fun e=>by have:=(HT.out.b1 _ e).2;omega,fun e=>by have:=(HT.out.b2 _ e).2;omega,by have:=hS2.size;omega⟩
         have HZ9:=Lib.hid hZ
         replace HT:=Lib.hid (HT.out.below hbl)
         have HNE:Hid (p10 ≠ p9):=(by have:=HZ10.out.here;show _ ≠ _;omega);replace HZ10:=Lib.hid (HZ10.out.later hbl)
         replace HR1:=Lib.hid (HR1.out.later hbl)
         refine hK.out _ _ (hS2.trans (GrP.ofBelow hbl)) (fun hS3=>?_)
         clear hK K hp hZ hbl
         try simp only [Act.put,tZ]
         refine wpAnyH_ready (rs:=[11]) (by kernel_rfl) (by simp) ?_
         refine (AllReadyH.cons rfl (fun K hK=>?_) AllReadyH.nil)
         ·go_simp
          have hsz:=hS3.size
          refine (tg_right HT.out hm0 HMM.out x (HZX.out _ hS3) HL1.out HL3.out).mono ?_
          rintro e y4 ⟨⟨A2,n2,c2,rfl,hR⟩,hT,hG⟩
          have HZ9':=Lib.hid (HZ9.out.grp hG HO9.out.2.1);have HO9':Hid (Off (F1) (nextF Ky' y3 y4) w9 p9):=⟨HO9.out.1,nextF.off HO9.out.2.1 HZ9.out.here,HO9.out.2.2⟩;clear HZ9 HO9;have HZ9:=HZ9';have HO9:=HO9';clear HZ9' HO9'
          have HZ10':=Lib.hid (HZ10.out.grp hG HO10.out.2.1);have HO10':Hid (Off (F1) (nextF Ky' y3 y4) w9 p10):=⟨HO10.out.1,nextF.off HO10.out.2.1 HZ10.out.here,HO10.out.2.2⟩;clear HZ10 HO10;have HZ10:=HZ10';have HO10:=HO10';clear HZ10' HO10'
          replace HR1:=Lib.hid (HR1.out.grp hG HKL.out)
          have HR2:Hid (RetL w9.heap.size y4 A2 n2 c2 (stF S x.v).2.2):=RetL.base hR hsz
          have HK1:Hid (∀ k,nextF Ky' y3 y4 k->Ky' k ∨ w9.heap.size<=k):=fun k hk=>hk.1.imp id (fun h=>Nat.le_trans hsz h)
          clear HT
          obtain ⟨K1,hK1⟩:∃ G,G=nextF Ky' y3 y4:=⟨_,rfl⟩
          rw [<- hK1] at hT HK1 HO9 HO10
          have HT:=Lib.hid hT
          go_simp
          refine hK.out _ _ (hS3.late hG (fun k hk=>.inl (.inr hk))) (fun hS4=>?_)
          clear hK K hR hT hG hsz hK1
          try simp only [Act.put,tZ]
          refine wpAnyH_ready (rs:=[14]) (by kernel_rfl) (by simp) ?_
          refine (AllReadyH.cons rfl (fun K hK=>?_) AllReadyH.nil)
          ·simp only [if_pos,Region.wanted]
           refine store_bk_op 36 (.tmp 11) (.tmp 56) rfl p9 0 #[.int .i64 (stF S x.v).2.1,.slice A1 n1 c1] rfl rfl 36 #[.int .i64 0,.slice none 0 0] #[.int .i64 (stF S x.v).2.1,.slice A1 n1 c1] HZ9.out (by kernel_rfl) (by simp) (by kernel_rfl) rfl ?_
           intro y5 hX hgr hs9
           replace HZ10:=Lib.hid (HZ10.out.stays hgr (by have:=HNE.out;simp;omega))
           replace HT:=Lib.hid (HT.out.grp (GrP.of hgr) (fun k hk=>by injection hk with hk;subst hk;exact ⟨HO9.out.1,HO9.out.2.1,Nat.le_trans HB9.out.size HO9.out.2.2⟩))
           replace HR1:=Lib.hid (HR1.out.aside HZ9.out noText0 hgr)
           replace HR2:=Lib.hid (HR2.out.aside HZ9.out noText0 hgr)
           clear HZ9;have HZ9:=Lib.hid hX
           refine hK.out _ _ (hS4.more hgr (fun k hk=>by injection hk with hk;subst hk;exact .inr HO9.out.2.2)) (fun hS5=>?_)
           clear hK K hX hgr hs9
           try simp only [Act.put,tZ]
           refine wpAnyH_ready (rs:=[15]) (by kernel_rfl) (by simp) ?_
           refine (AllReadyH.cons rfl (fun K hK=>?_) AllReadyH.nil)
           ·simp only [if_pos,Region.wanted]
            refine store_bk_op 36 (.tmp 12) (.tmp 62) rfl p10 0 #[.int .i64 (stF S x.v).2.1,.slice A2 n2 c2] rfl rfl 36 #[.int .i64 0,.slice none 0 0] #[.int .i64 (stF S x.v).2.1,.slice A2 n2 c2] HZ10.out (by kernel_rfl) (by simp) (by kernel_rfl) rfl ?_
            intro y6 hX hgr hs9
            replace HZ9:=Lib.hid (HZ9.out.stays hgr (by have:=HNE.out;simp;omega))
            replace HT:=Lib.hid (HT.out.grp (GrP.of hgr) (fun k hk=>by injection hk with hk;subst hk;exact ⟨HO10.out.1,HO10.out.2.1,Nat.le_trans HB9.out.size HO10.out.2.2⟩))
            replace HR1:=Lib.hid (HR1.out.aside HZ10.out noText0 hgr)
            replace HR2:=Lib.hid (HR2.out.aside HZ10.out noText0 hgr)
            clear HZ10;have HZ10:=Lib.hid hX
            refine hK.out _ _ (hS5.more hgr (fun k hk=>by injection hk with hk;subst hk;exact .inr HO10.out.2.2)) (fun hS6=>?_)
            clear hK K hX hgr hs9
            try simp only [Act.put,tZ]
            refine wpAnyH_done (by kernel_rfl) ?_ _
            go_wp2_with fail
            go_meet
            exact ⟨p9,p10,A1,n1,c1,A2,n2,c2,F1,K1,rfl,rfl,hS6,HT.out,HZ9.out,HZ10.out,HR1.out,HR2.out,HF1.out,HK1.out⟩
       ·simp only [if_pos,Region.wanted]
        refine acell_op rfl ?_
        intro p9 y2 hp hZ hbl
        have HO9:Hid (Off F Ky' w9 p9):=⟨fun e=>by have:=(HT.out.b1 _ e).2;omega,fun e=>by have:=(HT.out.b2 _ e).2;omega,by have:=hS1.size;omega⟩
        have HZ9:=Lib.hid hZ
        replace HT:=Lib.hid (HT.out.below hbl)
        have HNE:Hid (p10 ≠ p9):=(by have:=HZ10.out.here;show _ ≠ _;omega);replace HZ10:=Lib.hid (HZ10.out.later hbl)
        refine hK.out _ _ (hS1.trans (GrP.ofBelow hbl)) (fun hS2=>?_)
        clear hK K hp hZ hbl
        try simp only [Act.put,tZ]
        refine wpAnyH_ready (rs:=[5]) (by kernel_rfl) (by simp) ?_
        refine (AllReadyH.cons rfl (fun K hK=>?_) AllReadyH.nil)
        ·go_simp
         have hsz:=hS2.size
         refine (tg_left HT.out hm0 HMM.out x (HZX.out _ hS2) HL1.out HL3.out).mono ?_
         rintro e y3 ⟨⟨A1,n1,c1,rfl,hR⟩,hT,hG⟩
         have HZ9':=Lib.hid (HZ9.out.grp hG HO9.out.1);have HO9':Hid (Off (nextF F y2 y3) (Ky') w9 p9):=⟨nextF.off HO9.out.1 HZ9.out.here,HO9.out.2.1,HO9.out.2.2⟩;clear HZ9 HO9;have HZ9:=HZ9';have HO9:=HO9';clear HZ9' HO9'
         have HZ10':=Lib.hid (HZ10.out.grp hG HO10.out.1);have HO10':Hid (Off (nextF F y2 y3) (Ky') w9 p10):=⟨nextF.off HO10.out.1 HZ10.out.here,HO10.out.2.1,HO10.out.2.2⟩;clear HZ10 HO10;have HZ10:=HZ10';have HO10:=HO10';clear HZ10' HO10'
         have HR1:Hid (RetL w9.heap.size y3 A1 n1 c1 (stF S x.v).2.2):=RetL.base hR hsz
         have HF1:Hid (∀ k,nextF F y2 y3 k->F k ∨ w9.heap.size<=k):=fun k hk=>hk.1.imp id (fun h=>Nat.le_trans hsz h)
         clear HT
         obtain ⟨F1,hF1⟩:∃ G,G=nextF F y2 y3:=⟨_,rfl⟩
         rw [<- hF1] at hT HF1 HO9 HO10
         have HT:=Lib.hid hT
         go_simp
         refine hK.out _ _ (hS2.late hG (fun k hk=>.inl (.inl hk))) (fun hS3=>?_)
         clear hK K hR hT hG hsz hF1
         try simp only [Act.put,tZ]
         refine wpAnyH_ready (rs:=[11]) (by kernel_rfl) (by simp) ?_
         refine (AllReadyH.cons rfl (fun K hK=>?_) AllReadyH.nil)
         ·go_simp
          have hsz:=hS3.size
          refine (tg_right HT.out hm0 HMM.out x (HZX.out _ hS3) HL1.out HL3.out).mono ?_
          rintro e y4 ⟨⟨A2,n2,c2,rfl,hR⟩,hT,hG⟩
          have HZ9':=Lib.hid (HZ9.out.grp hG HO9.out.2.1);have HO9':Hid (Off (F1) (nextF Ky' y3 y4) w9 p9):=⟨HO9.out.1,nextF.off HO9.out.2.1 HZ9.out.here,HO9.out.2.2⟩;clear HZ9 HO9;have HZ9:=HZ9';have HO9:=HO9';clear HZ9' HO9'
          have HZ10':=Lib.hid (HZ10.out.grp hG HO10.out.2.1);have HO10':Hid (Off (F1) (nextF Ky' y3 y4) w9 p10):=⟨HO10.out.1,nextF.off HO10.out.2.1 HZ10.out.here,HO10.out.2.2⟩;clear HZ10 HO10;have HZ10:=HZ10';have HO10:=HO10';clear HZ10' HO10'
          replace HR1:=Lib.hid (HR1.out.grp hG HKL.out)
          have HR2:Hid (RetL w9.heap.size y4 A2 n2 c2 (stF S x.v).2.2):=RetL.base hR hsz
          have HK1:Hid (∀ k,nextF Ky' y3 y4 k->Ky' k ∨ w9.heap.size<=k):=fun k hk=>hk.1.imp id (fun h=>Nat.le_trans hsz h)
          clear HT
          obtain ⟨K1,hK1⟩:∃ G,G=nextF Ky' y3 y4:=⟨_,rfl⟩
          rw [<- hK1] at hT HK1 HO9 HO10
          have HT:=Lib.hid hT
          go_simp
          refine hK.out _ _ (hS3.late hG (fun k hk=>.inl (.inr hk))) (fun hS4=>?_)
          clear hK K hR hT hG hsz hK1
          try simp only [Act.put,tZ]
          refine wpAnyH_ready (rs:=[14]) (by kernel_rfl) (by simp) ?_
          refine (AllReadyH.cons rfl (fun K hK=>?_) AllReadyH.nil)
          ·simp only [if_pos,Region.wanted]
           refine store_bk_op 36 (.tmp 11) (.tmp 56) rfl p9 0 #[.int .i64 (stF S x.v).2.1,.slice A1 n1 c1] rfl rfl 36 #[.int .i64 0,.slice none 0 0] #[.int .i64 (stF S x.v).2.1,.slice A1 n1 c1] HZ9.out (by kernel_rfl) (by simp) (by kernel_rfl) rfl ?_
           intro y5 hX hgr hs9
           replace HZ10:=Lib.hid (HZ10.out.stays hgr (by have:=HNE.out;simp;omega))
           replace HT:=Lib.hid (HT.out.grp (GrP.of hgr) (fun k hk=>by injection hk with hk;subst hk;exact ⟨HO9.out.1,HO9.out.2.1,Nat.le_trans HB9.out.size HO9.out.2.2⟩))
           replace HR1:=Lib.hid (HR1.out.aside HZ9.out noText0 hgr)
           replace HR2:=Lib.hid (HR2.out.aside HZ9.out noText0 hgr)
           clear HZ9;have HZ9:=Lib.hid hX
           refine hK.out _ _ (hS4.more hgr (fun k hk=>by injection hk with hk;subst hk;exact .inr HO9.out.2.2)) (fun hS5=>?_)
           clear hK K hX hgr hs9
           try simp only [Act.put,tZ]
           refine wpAnyH_ready (rs:=[15]) (by kernel_rfl) (by simp) ?_
           refine (AllReadyH.cons rfl (fun K hK=>?_) AllReadyH.nil)
           ·simp only [if_pos,Region.wanted]
            refine store_bk_op 36 (.tmp 12) (.tmp 62) rfl p10 0 #[.int .i64 (stF S x.v).2.1,.slice A2 n2 c2] rfl rfl 36 #[.int .i64 0,.slice none 0 0] #[.int .i64 (stF S x.v).2.1,.slice A2 n2 c2] HZ10.out (by kernel_rfl) (by simp) (by kernel_rfl) rfl ?_
            intro y6 hX hgr hs9
            replace HZ9:=Lib.hid (HZ9.out.stays hgr (by have:=HNE.out;simp;omega))
            replace HT:=Lib.hid (HT.out.grp (GrP.of hgr) (fun k hk=>by injection hk with hk;subst hk;exact ⟨HO10.out.1,HO10.out.2.1,Nat.le_trans HB9.out.size HO10.out.2.2⟩))
            replace HR1:=Lib.hid (HR1.out.aside HZ10.out noText0 hgr)
            replace HR2:=Lib.hid (HR2.out.aside HZ10.out noText0 hgr)
            clear HZ10;have HZ10:=Lib.hid hX
            refine hK.out _ _ (hS5.more hgr (fun k hk=>by injection hk with hk;subst hk;exact .inr HO10.out.2.2)) (fun hS6=>?_)
            clear hK K hX hgr hs9
            try simp only [Act.put,tZ]
            refine wpAnyH_done (by kernel_rfl) ?_ _
            go_wp2_with fail
            go_meet
            exact ⟨p9,p10,A1,n1,c1,A2,n2,c2,F1,K1,rfl,rfl,hS6,HT.out,HZ9.out,HZ10.out,HR1.out,HR2.out,HF1.out,HK1.out⟩
     case rest=>
      obtain ⟨p9,p10,A1,n1,c1,A2,n2,c2,F1,K1,rfl,rfl,hG,hT,hZ9,hZ10,hR1,hR2,hF1,hK1⟩:=hcut
      have HTc:=Lib.hid hT;have HZ9:=Lib.hid hZ9;have HZ10:=Lib.hid hZ10
      have hn1:n1<=c1:=hR1.2.2.1;have hn12:c1<=9223372036854775807:=hR1.2.2.2.1
      have hn2:n2<=c2:=hR2.2.2.1;have hn22:c2<=9223372036854775807:=hR2.2.2.2.1
      have KS:=Lib.hid (rsameAns_any (stF S x.v).2.1 (stF S x.v).2.1 A1 A2 n1 c1 n2 c2 (stF S x.v).2.2 (stF S x.v).2.2 wc (Lib.hid hR1.1) (Lib.hid hR2.1) (Lib.hid hR1.2.1) (Lib.hid hR2.2.1) hn1 hn12 hn2 hn22)
      have HRN:Hid (Rg (stF S x.v).1):=HRG.out.step HT9.out.i1 x.v
      clear hG hT hZ9 hZ10 hR1 hR2 hF1 hK1 hn1 hn12 hn2 hn22
      go_wp2_with (first | (with_reducible refine load_bk rfl 36 _ rfl p9 0 rfl 36 #[.int .i64 (stF S x.v).2.1,.slice A1 n1 c1] #[.int .i64 (stF S x.v).2.1,.slice A1 n1 c1] _ HZ9.out (Part.whole _) Tryz.underlying36 rfl (by kernel_rfl) ?_) | (with_reducible refine load_bk rfl 36 _ rfl p10 0 rfl 36 #[.int .i64 (stF S x.v).2.1,.slice A2 n2 c2] #[.int .i64 (stF S x.v).2.1,.slice A2 n2 c2] _ HZ10.out (Part.whole _) Tryz.underlying36 rfl (by kernel_rfl) ?_))
      refine KS.out.mono ?_
      rintro e w11 ⟨rfl,hb11⟩
      rw [sameAns_refl]
      have HTn:Hid (Tg w w11 g h' F1 K1 (stF S x.v).1 (stF S x.v).1 (1001000 * ((i+1:Nat):Int)) (1001000 * ((i+1:Nat):Int))):=by rw [HMI.out];exact HTc.out.below hb11
      clear hb11 KS HZ9 HZ10 HTc HGW HZX HXR HFL HKL HB9 HT9 HMM HMS hm0
      have hN150:=HN150.out
      go_wp2_with fail
      go_round
      case rel=>exact ⟨i+1,F1,K1,(stF S x.v).1,h',hin,rfl,by go_num,HTn,HRN⟩
      case measure=>simp [intOf];omega
   ·skip
    have hie:i=N:=by omega
    clear hi hin
    go_wp2_with fail
    refine (gx_told HT.out.g1 HT.out.i1).mono ?_
    rintro e wa ⟨⟨va,Ta,rfl,-,hSa,hba,-,-⟩,hb2⟩
    have HSA:=Lib.hid hSa;have HBA:=Lib.hid hba
    have HTa:=Lib.hid (HT.out.below hb2)
    clear hSa hba hb2 HT
    go_wp2_with fail
    refine (gx_told HTa.out.g2 HTa.out.i2).mono ?_
    rintro e wb ⟨⟨vb,Tb,rfl,-,hSb,hbb,-,-⟩,hb2⟩
    have HSB:=Lib.hid hSb
    have HSA2:=Lib.hid (HSA.out.later hb2)
    have HTb:=Lib.hid (HTa.out.below hb2)
    have HBB:Hid (Ta.bare=Tb.bare):=HBA.out.trans hbb.symm
    clear hSb hbb hb2 HTa HSA HBA
    go_wp2_with fail
    refine (same15_yes va vb Ta Tb wb HSA2 HSB HBB.out).mono ?_
    rintro e wd ⟨rfl,hb2⟩
    have HBD:=Lib.hid (HTb.out.be.trans (hb2.mono HTb.out.be.size))
    clear hb2
    go_wp2_with fail
    go_ret
    exact ⟨rfl,HBD.out⟩
end gen1Same
end
end Go.Proofs.YtccccbofcnmdiaaGreat
