/- Lemmas that the law stands on. No condition. -/
import Derived.Test.YtccccbofcnmdiaaGreatM20
namespace Go.Proofs.YtccccbofcnmdiaaGreat
set_option linter.unusedSimpArgs false
set_option linter.unusedVariables false
set_option maxRecDepth 100000
set_option maxHeartbeats 51200000
section
open Go.RowKit Go.Sort
theorem RdK.past {w w':World}{k g:Nat}{A:Option Addr}{l:List (List Value)}(h:RdK w k A l)(hg:w.grownBy w' (some g))(ha:∀ a,A=some a->g<a.block):RdK w' k A l:=fun i x hx=>by
 obtain ⟨g',o,hA,hr⟩:=h i x hx
 have hlt:g<g':=ha _ hA
 refine ⟨g',o,hA,fun j v hv=>?_⟩
 rw [World.cell?_of_block (hg.block g' (World.block_lt_of_cell? w _ (hr j v hv)) (by simp;omega))]
 exact hr j v hv
def chJ (L:List Ml)(t:Kt)(tl:List Lb)(l:List Jb)(o:Option Ch):List Jb:=match o with | none=>[] | some x=>((plansOf L t tl l x.1).getD []).map (jat l)
theorem chG_is (L:List Ml)(t:Kt)(tl:List Lb)(l:List Jb)(o:Option Ch):chG L t tl l o=(chJ L t tl l o).map Jb.nm:=by
 cases o with
 | none=>rfl
 | some x=>exact namesAt_is l _
section
variable {L:List Ml}{t:Kt}{tl:List Lb}{l:List Jb}{k:Nat}{o:Option Ch}{G:List Nat}
theorem chJ_len (h:cho (plansOf L t tl l) l L k=o)(hl:l.length<=1000000)(hk:k<=L.length):(chJ L t tl l o).length<=1000000:=by
 cases o with
 | none=>simp [chJ]
 | some x=>
  obtain ⟨⟨G,h1,h2,h3,h4⟩,_⟩:=cho_is h
  have hxl:x.1<L.length:=by omega
  show (((plansOf L t tl l x.1).getD []).map (jat l)).length<=1000000
  rw [h1,List.length_map]
  rw [plansOf_at hxl] at h1
  have:=places_len h1
  show G.length<=_
  omega
theorem betr_cf (h:cho (plansOf L t tl l) l L k=o)(ho:o.isSome=true)(G:List Nat):decide (cfC (nmAt L k) (G.map (jat l)) (chN L o) (chJ L t tl l o)<0)=betr L k G.length (lastP l G) o:=by
 cases o with
 | none=>cases ho
 | some x=>
  obtain ⟨b,m,tp⟩:=x
  obtain ⟨⟨G2,h1,h2,h3,h4⟩,_⟩:=cho_is h
  simp only at h1 h2 h3
  have e1:chJ L t tl l (some (b,m,tp))=G2.map (jat l):=by unfold chJ;simp only [h1,Option.getD_some]
  rw [e1,betr_some]
  show decide (cfC (nmAt L k) (G.map (jat l)) (nmAt L b) (G2.map (jat l))<0)=_
  unfold cfC or3 or2
  rw [<- lastP_is,<- lastP_is,<- h3,List.length_map,List.length_map,<- h2]
  by_cases c1:G.length=m
  ·rw [if_pos (cI_zero.2 (by omega)),decide_eq_false (show ¬ G.length<m by omega),decide_eq_true c1]
   simp only [Bool.false_or,Bool.true_and]
   by_cases c2:lastP l G=tp
   ·rw [if_pos (cI_zero.2 c2),decide_eq_false (show ¬ lastP l G<tp by omega),decide_eq_true c2]
    simp only [Bool.false_or,Bool.true_and]
    rw [Bool.eq_iff_iff,decide_eq_true_eq,compareBytes_neg,sL_iff]
   ·rw [if_neg (fun e=>c2 (cI_zero.1 e)),decide_eq_false c2]
    simp only [Bool.false_and,Bool.or_false]
    rw [decide_eq_decide];exact cI_neg
  ·rw [if_neg (fun e=>c1 (by have:=cI_zero.1 e;omega)),decide_eq_false c1]
   simp only [Bool.false_and,Bool.or_false]
   rw [decide_eq_decide,cI_neg];omega
theorem chJ_new (h:plansOf L t tl l k=some G) (m:Nat) (tp:Int):chJ L t tl l (some (k,m,tp))=G.map (jat l):=by unfold chJ;simp only [h,Option.getD_some]
end


theorem vchoose_any (A0:Option Addr) (N c0:Nat)(L:List Ml)(A:Option Addr) (n cap:Nat)(l:List Jb)(t:Kt)(tl:List Lb)(w:World)(hN:Hid (N=L.length))(hNl:N<=1000000)(hL:Hid (RdM w A0 (mcs L)))(hLo:Hid (MsOk w L))(hn:Hid (n=l.length))(hl:n<=1000000)(hA:Hid (RdJ w A l))(hT:Hid (KtOk w t tl))(r:Option Ch)(hr:Hid (cho (plansOf L t tl l) l L N=r)) :
  Calls Tryz.prog 191 #[.slice A0 N c0,.slice A n cap,.agg t.arr] w fun e w'=>RetC w.heap.size w' e (chN L r) (chG L t tl l r) r.isSome/\Below w.heap.size w w':=by
 rw [chG_is]
 go_enter Tryz.func191,Tryz.ntmps191
 have HT0:=Lib.hid (show Bk (w.alloc (.cells t.arr 47)) w.heap.size 47 t.arr from Bk.fresh _ _ _)
 have hB0:Below w.heap.size w (w.alloc (.cells t.arr 47)):=(Below.refl _ _).alloc (Nat.le_refl _) _
 go_wp2_with ((with_reducible refine store_bk rfl 234 (.tmp 9) (.tmp 16) rfl (w.heap.size+1) 0 #[.string ⟨#[]⟩,.slice none 0 0] rfl rfl 234 _ #[.string ⟨#[]⟩,.slice none 0 0] (Bk.freshAt _ _ _ (by simp)) (by kernel_rfl) (by simp) (by kernel_rfl) rfl ?_);intro w1 hB1 hg1 hs1;have HT1:=Lib.hid ((HT0.out.later ((Below.refl _ _).alloc (Nat.le_refl _) _)).stays hg1 (by simp));have HC1:=Lib.hid hB1;have hb1:Below w.heap.size w w1:=grown_below (hB0.alloc (by simp) _) hg1 (by omega);clear hB1 hg1 hs1 HT0 hB0)
 go_loopw [10,19] (fun v10 i wr=>∃ k:Nat,k<=N/\i = .int .i64 k/\(∃ (oc:Option Ch)(B:Option Addr) (c:Nat),v10 = .bool oc.isSome/\Hid (cho (plansOf L t tl l) l L k=oc)/\Hid (Bk wr (w.heap.size+1) 234 #[.string (chN L oc),.slice B (chJ L t tl l oc).length c])/\Hid (RdJ wr B (chJ L t tl l oc))/\Hid (∀ a,B=some a->w.heap.size+2<=a.block))/\Hid (Bk wr w.heap.size 47 t.arr)/\Below w.heap.size w wr) (fun _ i wr=>N - (intOf i).toNat)
 case atStart=>exact ⟨0,Nat.zero_le _,rfl,⟨none,none,0,rfl,(show _=_ from rfl),HC1,RdJ.nil _ _,(show ∀ a,none=some a->_ from fun a h=>by cases h)⟩,HT1,hb1⟩
 case round=>
  clear HT1 hb1 HC1
  obtain ⟨k,hk,rfl,⟨oc,B,cB,rfl,HC,HBe,HRd,HFr⟩,HTb,hb⟩:=hrel
  have lt0:w.heap.size+1<wr.heap.size:=HBe.out.here
  have hJl:(chJ L t tl l oc).length<=1000000:=chJ_len HC.out (by have:=hn.out;omega) (by have:=hN.out;omega)
  by_cases hlt:k<N
  ·have hlk:k<L.length:=by have:=hN.out;omega
   obtain ⟨g,o,hAg,hg,hm⟩:=(hL.out.later hb).at (i:=k) (by simpa [mcs] using hlk)
   subst hAg
   rw [mcs_at hlk] at hm
   obtain ⟨x,hx⟩:∃ x,x=L[k]:=⟨_,rfl⟩
   rw [<- hx] at hm
   have HMt:=Lib.hid hm;clear hm
   have hxo:McOk w x.1 x.2:=by rw [hx];exact hLo.out.at hlk
   obtain ⟨r',hr'⟩:∃ r,places x.1 x.2 t tl l=r:=⟨_,rfl⟩
   have hpl:plansOf L t tl l k=r':=by rw [plansOf_at hlk,<- hx];exact hr'
   have hnk:nmAt L k=x.1.nm:=by rw [nmAt_at hlk,<- hx]
   have ks:=fun (W:World)(h1:Hid (RdJ W A l))(h2:Hid (McOk W x.1 x.2))(h3:Hid (KtOk W t tl))=>vtop_any x.1 x.2 A n cap l t tl W hn hl h1 h2 h3 (r'.map fun G=>G.map (jat l)) (show planJ x.1 x.2 t tl l=_ by unfold planJ;rw [hr'])
   have hGn:(r'.getD []).length<=n:=by
    cases r' with
    | none=>simp
    | some G=>have:=places_len hr';have:=hn.out;simp;omega
   have KS:=Lib.hid ks;have HPl:=Lib.hid hpl;have HNk:=Lib.hid hnk;have HXo:=Lib.hid hxo
   clear ks hpl hnk hxo hx hr'
   go_wp2_with (first | (with_reducible refine load_rg rfl 60 _ rfl g (o+k * 7) rfl x.1.arr _ HMt.out.rg Tryz.underlying60 rfl (by kernel_rfl) ?_) | ((with_reducible refine store_bk rfl 60 (.tmp 12) (.tmp 22) rfl wr.heap.size 0 x.1.arr rfl rfl 60 _ x.1.arr (Bk.fresh _ _ _) (by kernel_rfl) (by simp) (by kernel_rfl) rfl ?_);intro w4 hB4 hg4 hs4;have bl4:Below wr.heap.size wr w4:=grown_below ((Below.refl _ _).alloc (Nat.le_refl _) _) hg4 (Nat.le_refl _);have HX4:=Lib.hid hB4;clear hB4 hg4 hs4;have HT4:=Lib.hid (HTb.out.later bl4);have HE4:=Lib.hid (HBe.out.later bl4);have HR4:=Lib.hid (HRd.out.later bl4);have hb4:Below w.heap.size w w4:=hb.trans (bl4.mono hb.size)) | (with_reducible refine load_bk rfl 60 _ rfl wr.heap.size 0 rfl 60 x.1.arr x.1.arr _ HX4.out (Part.whole _) Tryz.underlying60 rfl (by kernel_rfl) ?_) | (with_reducible refine load_bk rfl 47 _ rfl w.heap.size 0 rfl 47 t.arr t.arr _ HT4.out (Part.whole _) Tryz.underlying47 rfl (by kernel_rfl) ?_))
   refine (KS.out _ (hA.out.later hb4) (HXo.out.later hb4) (hT.out.later hb4)).mono ?_;rintro v w5 ⟨⟨B5,c5,rfl,h1,h2,h3,h4⟩,hb5⟩
   have HX5:=Lib.hid (HX4.out.later hb5);have HT5:=Lib.hid (HT4.out.later hb5);have HE5:=Lib.hid (HE4.out.later hb5);have HR5:=Lib.hid (HR4.out.later hb5)
   have hB5:Below w.heap.size w w5:=hb4.trans (hb5.mono hb4.size)
   have lt5:w.heap.size+1<w5.heap.size:=HE5.out.here
   have lx5:wr.heap.size<w5.heap.size:=HX5.out.here
   have h4':∀ a,B5=some a->w.heap.size+2<=a.block:=fun a e=>by have:=h4 a e;have:=HE4.out.here;omega
   have HF5:=Lib.hid h4'
   clear h4 h4' HX4 HT4 HE4 HR4 hb4 hb5 bl4 HTb HBe HRd HMt hg
   cases r' with
   | none=>
    have HC2:Hid (cho (plansOf L t tl l) l L (k+1)=oc):=by show _=_;rw [cho_no HPl.out];exact HC.out
    clear h1 h2 h3 HPl KS
    go_wp2_with fail
    go_round
    case rel=>exact ⟨k+1,by omega,by go_num,⟨oc,B,cB,rfl,HC2,HE5,HR5,HFr⟩,HT5,hB5⟩
    case measure=>simp [intOf];omega
   | some G=>
    have hG1:((Option.map (fun G=>G.map (jat l)) (some G)).getD [])=G.map (jat l):=rfl
    have hG2:(Option.map (fun G=>List.map (jat l) G) (some G)).isSome=true:=rfl
    rw [hG1] at h1 h2 ⊢
    rw [hG2]
    have hGn':G.length<=n:=hGn
    obtain ⟨E,hE⟩:∃ E,E=G.map (jat l):=⟨_,rfl⟩
    have hEl:E.length<=1000000:=by rw [hE,List.length_map];omega
    rw [<- hE] at h1 h2 ⊢
    obtain ⟨q,hq⟩:∃ q,q=E.length:=⟨_,rfl⟩
    rw [<- hq] at h2 hEl ⊢
    have H1:=Lib.hid h1;have HQ:=Lib.hid hq;have HEE:=Lib.hid hE
    clear h1 hq hE hG1 hG2 hGn hGn' KS
    have c0:w5.cell? ⟨wr.heap.size,0,none⟩=some (.string x.1.nm):=HX5.out.cellAt 0
    have HNew:Hid (∀ (m:Nat) (tp:Int),chJ L t tl l (some (k,m,tp))=E):=fun m tp=>by rw [HEE.out];exact chJ_new HPl.out m tp
    have hNm:∀ (m:Nat) (tp:Int),chN L (some (k,m,tp))=x.1.nm:=fun m tp=>HNk.out
    have HNm:=Lib.hid hNm;clear hNm
    cases oc with
    | none=>
     have HC2:Hid (cho (plansOf L t tl l) l L (k+1)=some (k,G.length,lastP l G)):=by show _=_;rw [cho_yes HPl.out,HC.out];rfl
     go_wp2_with (first | ((with_reducible refine store_bk rfl 234 (.tmp 15) (.tmp 36) rfl w5.heap.size 0 #[.string x.1.nm,.slice B5 q c5] rfl rfl 234 _ #[.string x.1.nm,.slice B5 q c5] (Bk.fresh _ _ _) (by kernel_rfl) (by simp) (by kernel_rfl) rfl ?_);intro w6 hB6 hg6 hs6;have bl6:Below w5.heap.size w5 w6:=grown_below ((Below.refl _ _).alloc (Nat.le_refl _) _) hg6 (Nat.le_refl _);have HY6:=Lib.hid hB6;clear hB6 hg6 hs6;have HT6:=Lib.hid (HT5.out.later bl6);have HE6:=Lib.hid (HE5.out.later bl6);have HR6:=Lib.hid (HR5.out.later bl6);have H16:=Lib.hid (H1.out.later bl6);have hb6:Below w.heap.size w w6:=hB5.trans (bl6.mono hB5.size);have lt6:w.heap.size+1<w6.heap.size:=HE6.out.here) | (with_reducible refine load_bk rfl 234 _ rfl w5.heap.size 0 rfl 234 #[.string x.1.nm,.slice B5 q c5] #[.string x.1.nm,.slice B5 q c5] _ HY6.out (Part.whole _) Tryz.underlying234 rfl (by kernel_rfl) ?_) | ((with_reducible refine store_bk rfl 234 (.tmp 9) (.tmp 45) rfl (w.heap.size+1) 0 #[.string x.1.nm,.slice B5 q c5] rfl rfl 234 _ #[.string x.1.nm,.slice B5 q c5] HE6.out (by kernel_rfl) (by simp) (by kernel_rfl) rfl ?_);intro w8 hB8 hg8 hs8;have HE8:=Lib.hid hB8;have HT8:=Lib.hid (HT6.out.stays hg8 (by simp));have H18:=Lib.hid (RdK.past H16.out hg8 (fun a e=>by have:=HF5.out a e;omega));have hb8:Below w.heap.size w w8:=hb6.grown hg8 (by omega) (fun g e=>by injection e with e;omega);clear hB8 hs8 hg8))
     go_round
     case rel=>exact ⟨k+1,by omega,by go_num,⟨some (k,G.length,lastP l G),B5,c5,rfl,HC2,(by show Bk _ _ _ _;rw [HNm.out,HNew.out,<- HQ.out];exact HE8.out),(by show RdJ _ _ _;rw [HNew.out];exact H18.out),HF5⟩,HT8,hb8⟩
     case measure=>simp [intOf];omega
    | some y=>
     have hcf:=betr_cf (k:=k) HC.out rfl G
     rw [HNk.out,<- HEE.out] at hcf
     have kc:=fun (W:World)(h1:Hid (RdJ W B5 E))(h2:Hid (RdJ W B (chJ L t tl l (some y))))=>vcompare_any x.1.nm B5 q c5 E (chN L (some y)) B (chJ L t tl l (some y)).length cB (chJ L t tl l (some y)) W HQ hEl h1 (show _=_ from rfl) hJl h2
     obtain ⟨z,hz⟩:∃ z,z=cfC x.1.nm E (chN L (some y)) (chJ L t tl l (some y)):=⟨_,rfl⟩
     rw [<- hz] at hcf kc
     obtain ⟨R,hR⟩:∃ R,betr L k G.length (lastP l G) (some y)=R:=⟨_,rfl⟩
     have hcy:=cho_yes (l:=l) (L:=L) HPl.out
     rw [HC.out,hR] at hcy
     rw [hR] at hcf
     generalize hJJ:chJ L t tl l (some y)=J at kc HE5 HR5 hJl
     generalize hNN:chN L (some y)=nn at kc HE5
     have KC:=Lib.hid kc;have HCY:=Lib.hid hcy;have HJJ:=Lib.hid hJJ;have HNN:=Lib.hid hNN
     clear kc hcy hz hR hJJ hNN
     have hso:(some y).isSome=true:=rfl
     rw [hso]
     generalize hJn:J.length=jn at KC HE5 hJl
     have HJn:=Lib.hid hJn;clear hJn hso
     go_wp2_with (first | ((with_reducible refine store_bk rfl 234 (.tmp 15) (.tmp 36) rfl w5.heap.size 0 #[.string x.1.nm,.slice B5 q c5] rfl rfl 234 _ #[.string x.1.nm,.slice B5 q c5] (Bk.fresh _ _ _) (by kernel_rfl) (by simp) (by kernel_rfl) rfl ?_);intro w6 hB6 hg6 hs6;have bl6:Below w5.heap.size w5 w6:=grown_below ((Below.refl _ _).alloc (Nat.le_refl _) _) hg6 (Nat.le_refl _);have HY6:=Lib.hid hB6;clear hB6 hg6 hs6;have HT6:=Lib.hid (HT5.out.later bl6);have HE6:=Lib.hid (HE5.out.later bl6);have HR6:=Lib.hid (HR5.out.later bl6);have H16:=Lib.hid (H1.out.later bl6);have hb6:Below w.heap.size w w6:=hB5.trans (bl6.mono hB5.size);have lt6:w.heap.size+1<w6.heap.size:=HE6.out.here) | (with_reducible refine load_bk rfl 234 _ rfl w5.heap.size 0 rfl 234 #[.string x.1.nm,.slice B5 q c5] #[.string x.1.nm,.slice B5 q c5] _ HY6.out (Part.whole _) Tryz.underlying234 rfl (by kernel_rfl) ?_) | (with_reducible refine load_bk rfl 234 _ rfl (w.heap.size+1) 0 rfl 234 #[.string nn,.slice B jn cB] #[.string nn,.slice B jn cB] _ HE6.out (Part.whole _) Tryz.underlying234 rfl (by kernel_rfl) ?_))
     refine (KC.out _ (H1.out.later bl6) HR6).mono ?_;rintro v w7 ⟨rfl,hb7⟩
     have HT7:=Lib.hid (HT6.out.later hb7);have HE7:=Lib.hid (HE6.out.later hb7);have HY7:=Lib.hid (HY6.out.later hb7);have HR7:=Lib.hid (HR6.out.later hb7);have H17:=Lib.hid (H16.out.later hb7);have hB7:Below w.heap.size w w7:=hb6.trans (hb7.mono hb6.size)
     have lt7:w.heap.size+1<w7.heap.size:=HE7.out.here
     have ly7:w5.heap.size<w7.heap.size:=HY7.out.here
     clear HT6 HE6 HY6 HR6 H16 hb6 hb7 bl6 HT5 HE5 HX5 HR5 hB5 H1 c0 lt5 lx5
     cases R with
     | true=>
      have HC2:Hid (cho (plansOf L t tl l) l L (k+1)=some (k,G.length,lastP l G)):=HCY.out
      go_wp2_with (first | (with_reducible refine load_bk rfl 234 _ rfl w5.heap.size 0 rfl 234 #[.string x.1.nm,.slice B5 q c5] #[.string x.1.nm,.slice B5 q c5] _ HY7.out (Part.whole _) Tryz.underlying234 rfl (by kernel_rfl) ?_) | ((with_reducible refine store_bk rfl 234 (.tmp 9) (.tmp 45) rfl (w.heap.size+1) 0 #[.string x.1.nm,.slice B5 q c5] rfl rfl 234 _ #[.string x.1.nm,.slice B5 q c5] HE7.out (by kernel_rfl) (by simp) (by kernel_rfl) rfl ?_);intro w8 hB8 hg8 hs8;have HE8:=Lib.hid hB8;have HT8:=Lib.hid (HT7.out.stays hg8 (by simp));have H18:=Lib.hid (RdK.past H17.out hg8 (fun a e=>by have:=HF5.out a e;omega));have hb8:Below w.heap.size w w8:=hB7.grown hg8 (by omega) (fun g e=>by injection e with e;omega);clear hB8 hs8 hg8))
      go_round
      case rel=>exact ⟨k+1,by omega,by go_num,⟨some (k,G.length,lastP l G),B5,c5,rfl,HC2,(by show Bk _ _ _ _;rw [HNm.out,HNew.out,<- HQ.out];exact HE8.out),(by show RdJ _ _ _;rw [HNew.out];exact H18.out),HF5⟩,HT8,hb8⟩
      case measure=>simp [intOf];omega
     | false=>
      have HC2:Hid (cho (plansOf L t tl l) l L (k+1)=some y):=HCY.out
      go_wp2_with fail
      go_round
      case rel=>exact ⟨k+1,by omega,by go_num,⟨some y,B,cB,rfl,HC2,(by show Bk _ _ _ _;rw [HNN.out,HJJ.out,HJn.out];exact HE7.out),(by show RdJ _ _ _;rw [HJJ.out];exact HR7.out),HFr⟩,HT7,hB7⟩
      case measure=>simp [intOf];omega
  ·have hk':k=N:=by omega
   subst hk'
   have hrr:oc=r:=by rw [<- HC.out,<- hr.out]
   subst hrr
   have kn:=fun (W:World)(h1:Hid (RdJ W B (chJ L t tl l oc)))=>vnames_any B (chJ L t tl l oc).length cB (chJ L t tl l oc) W (show _=_ from rfl) hJl h1
   generalize hJn:(chJ L t tl l oc).length=jn at kn HBe
   have KN:=Lib.hid kn;clear kn hJn
   have cn:wr.cell? ⟨w.heap.size+1,0,none⟩=some (.string (chN L oc)):=HBe.out.cellAt 0
   have cs:wr.cell? ⟨w.heap.size+1,1,none⟩=some (.slice B jn cB):=HBe.out.cellAt 1
   have CN:=Lib.hid cn;have CS:=Lib.hid cs;clear cn cs
   go_wp2_with fail
   refine wp_region_held_drew (S:=fun X=>Below wr.heap.size wr X) (by kernel_rfl) (Below.drew (Below.refl _ _)) (fun hS0=>?_)
   refine wU (i:=0) (v:=?_) rfl ?_ hS0 ?_
   rotate_left
   ·intro W _;go_simp;try with_reducible rfl
   try simp only [Act.put,tZ]
   refine wU (i:=1) (v:=?_) rfl ?_ hS0 ?_
   rotate_left
   ·intro W hSW;have hx:=(hSW.cell (by show w.heap.size+1<wr.heap.size;omega)).trans CN.out;go_simp;try with_reducible rfl
   try simp only [Act.put,tZ]
   refine wU (i:=2) (v:=?_) rfl ?_ hS0 ?_
   rotate_left
   ·intro W _;go_simp;try with_reducible rfl
   try simp only [Act.put,tZ]
   refine wU (i:=3) (v:=?_) rfl ?_ hS0 ?_
   rotate_left
   ·intro W hSW;have hx:=(hSW.cell (by show w.heap.size+1<wr.heap.size;omega)).trans CS.out;go_simp;try with_reducible rfl
   try simp only [Act.put,tZ]
   refine wU (i:=5) (v:=?_) rfl ?_ hS0 ?_
   rotate_left
   ·intro W _;go_simp;try with_reducible rfl
   try simp only [Act.put,tZ]
   refine wpAnyH_ready (rs:=[4]) (by kernel_rfl) (by simp) ?_
   refine AllReadyH.cons rfl (fun K hK=>?_) AllReadyH.nil
   go_simp
   have hBS:Below w.heap.size w _:=hb.trans (hS0.mono hb.size)
   have hzS:=hBS.size
   refine (KN.out _ (HRd.out.later hS0)).mono ?_
   rintro v v1 ⟨⟨u,rfl,hO⟩,hbl⟩
   have HO:=Lib.hid hO;clear hO
   go_simp
   refine hK.out _ _ (hS0.trans (hbl.mono hS0.size)) (fun hS1=>?_)
   clear hK K
   try simp only [Act.put,tZ]
   refine wU (i:=6) (v:=?_) rfl ?_ hS1 ?_
   rotate_left
   ·intro W _;go_simp;try with_reducible rfl
   try simp only [Act.put,tZ]
   refine wU (i:=7) (v:=?_) rfl ?_ hS1 ?_
   rotate_left
   ·intro W _;go_simp;try with_reducible rfl
   try simp only [Act.put,tZ]
   refine wU (i:=8) (v:=?_) rfl ?_ hS1 ?_
   rotate_left
   ·intro W _;go_simp;try with_reducible rfl
   try simp only [Act.put,tZ]
   refine wpAnyH_done (by kernel_rfl) ?_ _
   have hBv:Below w.heap.size w v1:=hb.trans (hS1.mono hb.size)
   go_wp2_with fail
   exact bodyPost_ret (v:=.tuple #[.string (chN L oc),u,.bool oc.isSome]) (by simp [results,Tryz.results191,go_sem]) rfl ⟨⟨_,rfl,HO.out.base hzS⟩,hBv⟩
end
section
open Go.RowKit
theorem jat_jbs {J:List Jl}{i:Nat}(h:i<J.length):jat (jbs J) i=J[i].1:=by
 rw [jat_at (by simpa [jbs] using h)];simp [jbs]
theorem srtU_len (l:List Jb):(srtU l).length<=l.length:=by
 rw [(srtU_perm l).length_eq]
 exact Nat.le_trans (List.length_filter_le _ _) (by simp)
def unF (J:List Jl):List (List Nat):=unitsU (jbs J)
theorem uniK:UniK unF where
 calls A n cap J w hn hl hA:=by
  refine (units_any A n cap (jbs J) w (Lib.hid (by rw [hn];simp [jbs])) hl (Lib.hid hA)).mono ?_
  rintro e w' ⟨⟨v,vs,rfl,h1,h2⟩,hb⟩
  refine ⟨?_,hb⟩
  obtain ⟨B,c,hv,hr,-,-,-⟩:=h1.sl
  rw [cellsW_length,h2.len] at hv
  subst hv
  refine ⟨B,c,rfl,fun i hi=>?_⟩
  obtain ⟨v2,hv2,ho2⟩:=h2.el i (unF J)[i] (List.getElem?_eq_getElem hi)
  obtain ⟨g,o,hB,hg,hc⟩:=cellW hr hv2
  obtain ⟨A2,c2,e2,hr2,-,-⟩:=ho2.rdi
  rw [show (ints (unF J)[i]).length=(unF J)[i].length by simp [ints]] at e2
  subst e2
  refine ⟨g,o,A2,c2,hB,h1.block g (by rw [hB];rfl),hg,hc,fun k hk=>?_⟩
  obtain ⟨g2,o2,hA2,hg2,hc2⟩:=RdI.nat hr2 hk
  exact ⟨g2,o2,hA2,ho2.block g2 (by rw [hA2];rfl),hg2,hc2⟩
 ne J u hu:=by
  obtain ⟨p,r,rfl,-⟩:=units_in hu
  simp
 lt J u hu i hi:=by
  obtain ⟨p,r,-,h,-⟩:=units_in hu
  have:=(h i hi).1
  simpa [jbs] using this
 few J u hu:=by
  obtain ⟨i,hi,_,hu2⟩:=units_mem hu (Nat.le_refl _)
  obtain ⟨-,h3,-⟩:=unit_head hi hu2
  have h4:=srtU_len (jbs J)
  have h5:=h3.length_le
  simp only [jbs,List.length_map] at h4 h5 ⊢
  omega
 len J:=by
  have h1:=unitsK_len (jbs J) (srtU (jbs J)) (srtU (jbs J)).length
  have h4:=srtU_len (jbs J)
  show (unitsK (jbs J) (srtU (jbs J)) (srtU (jbs J)).length).length<=_
  simp only [jbs,List.length_map] at h1 h4 ⊢
  omega
theorem insE_mem {x z:En}{E:List En}(h:z ∈ insE x E):z=x ∨ z ∈ E:=by
 unfold insE at h
 rcases List.mem_append.1 h with h | h
 ·exact .inr ((List.takeWhile_sublist _).mem h)
 ·rcases List.mem_cons.1 h with h | h
  ·exact .inl h
  ·exact .inr ((List.dropWhile_sublist _).mem h)
theorem srt_mem (t:Kt)(tl:List Lb)(l:List Jb){z:En}:∀ (L:List Ml)(E:List En),z ∈ L.foldl (fun E m=>match entry t tl l m with | some x=>insE x E | none=>E) E->z ∈ E ∨ ∃ m ∈ L,m.1.nm=z.1
 | [],E,h=>.inl h
 | m :: L,E,h=>by
  rw [List.foldl_cons] at h
  rcases srt_mem t tl l L _ h with h1 | ⟨x,hx,e⟩
  ·cases he:entry t tl l m with
   | none=>rw [he] at h1;exact .inl h1
   | some y=>
    rw [he] at h1
    rcases insE_mem h1 with h2 | h2
    ·refine .inr ⟨m,by simp,?_⟩
     rw [h2]
     unfold entry at he
     cases hs:sco m.1 m.2 t tl l with
     | none=>rw [hs] at he;cases he
     | some s=>rw [hs] at he;injection he with he;rw [<- he]
    ·exact .inl h2
  ·exact .inr ⟨x,List.mem_cons_of_mem _ hx,e⟩
def bsF (L:List Ml)(J:List Jl) (p:Nat):ByteArray × Bool:=bestP (srt (jl J p).1.tk (jl J p).2 (jbs J) L)
theorem bestK:BestK bsF where
 calls A0 N c0 L A n cap J p w hp hN hNl hL hLo hn hl hA hT:=by
  have h:=best_any A0 N c0 L A n cap (jbs J) J[p].1.tk J[p].2 w (Lib.hid hN) hNl (Lib.hid hL) (Lib.hid hLo) (Lib.hid (by rw [hn];simp [jbs])) hl (Lib.hid hA) (Lib.hid hT)
  refine h.mono ?_
  rintro e w' ⟨rfl,hb⟩
  refine ⟨?_,hb⟩
  unfold bsF
  rw [jl_at hp];rfl
 mem L J p h:=by
  unfold bsF at h ⊢
  cases hE:srt (jl J p).1.tk (jl J p).2 (jbs J) L with
  | nil=>rw [hE] at h;cases h
  | cons x E=>
   have hx:x ∈ srt (jl J p).1.tk (jl J p).2 (jbs J) L:=by rw [hE];simp
   rcases srt_mem _ _ _ L [] hx with h1 | h1
   ·cases h1
   ·exact h1
def choF (L:List Ml)(J:List Jl) (p:Nat):Option Ch:=cho (plansOf L (jl J p).1.tk (jl J p).2 (jbs J)) (jbs J) L L.length
def chF (L:List Ml)(J:List Jl) (p:Nat):ByteArray × List ByteArray × Bool:=(chN L (choF L J p),chG L (jl J p).1.tk (jl J p).2 (jbs J) (choF L J p),(choF L J p).isSome)
theorem choF_is {L:List Ml}{J:List Jl}{p:Nat}{x:Ch}(h:choF L J p=some x):∃ hx:x.1<L.length,∃ G,chN L (some x)=L[x.1].1.nm/\chG L (jl J p).1.tk (jl J p).2 (jbs J) (some x)=namesAt (jbs J) G/\(∀ i ∈ G,i<J.length)/\G.length<=J.length:=by
 obtain ⟨⟨G,h1,-,-,h4⟩,-⟩:=cho_is h
 refine ⟨h4,G,?_,?_,?_,?_⟩
 ·show nmAt L x.1=_
  unfold nmAt;simp [List.getD,h4]
 ·show namesAt _ ((plansOf _ _ _ _ x.1).getD [])=_
  rw [h1];rfl
 ·rw [plansOf_at h4] at h1
  intro i hi
  simpa [jbs] using places_lt h1 i hi
 ·rw [plansOf_at h4] at h1
  simpa [jbs] using places_len h1
theorem choK:ChoK chF where
 calls A0 N c0 L A n cap J p w hp hN hNl hL hLo hn hl hA hT:=by
  have hr:cho (plansOf L J[p].1.tk J[p].2 (jbs J)) (jbs J) L N=choF L J p:=by unfold choF;rw [jl_at hp,hN]
  have h:=vchoose_any A0 N c0 L A n cap (jbs J) J[p].1.tk J[p].2 w (Lib.hid hN) hNl (Lib.hid hL) (Lib.hid hLo) (Lib.hid (by rw [hn];simp [jbs])) hl (Lib.hid hA) (Lib.hid hT) (choF L J p) (Lib.hid hr)
  refine h.mono ?_
  rintro e w' ⟨⟨v,rfl,ho⟩,hb⟩
  refine ⟨⟨v,rfl,?_⟩,hb⟩
  unfold chF
  rw [jl_at hp]
  exact ho
 mem L J p h:=by
  cases hc:choF L J p with
  | none=>unfold chF at h;rw [hc] at h;cases h
  | some x=>
   obtain ⟨hx,G,h1,-⟩:=choF_is hc
   refine ⟨L[x.1],List.getElem_mem hx,?_⟩
   unfold chF
   rw [hc];exact h1.symm
 nms L J p h s hs:=by
  cases hc:choF L J p with
  | none=>unfold chF at h;rw [hc] at h;cases h
  | some x=>
   obtain ⟨hx,G,-,h2,h3,-⟩:=choF_is hc
   unfold chF at hs
   rw [hc] at hs
   have hs:s ∈ chG L (jl J p).1.tk (jl J p).2 (jbs J) (some x):=hs
   rw [h2] at hs
   obtain ⟨i,hi,rfl⟩:=List.mem_map.1 hs
   refine ⟨J[i]'(h3 i hi),List.getElem_mem _,?_⟩
   rw [jat_jbs (h3 i hi)]
   exact sE_iff.2 rfl
 few L J p:=by
  cases hc:choF L J p with
  | none=>unfold chF;rw [hc];exact Nat.zero_le _
  | some x=>
   obtain ⟨hx,G,-,h2,-,h4⟩:=choF_is hc
   unfold chF
   rw [hc]
   show (chG L (jl J p).1.tk (jl J p).2 (jbs J) (some x)).length<=_
   rw [h2];simpa [namesAt] using h4
end
section
open Go.RowKit
def tickG (bs:Bst)(ch:Chs15)(un:Uns)(S:Sg):Sg × An:=
 if 1073741824<=S.ck then (S,6,[]) else
  ({ (expG { S with ck:=S.ck+1 }).1 with J:=(passG bs ch un (expG { S with ck:=S.ck+1 }).1.M (expG { S with ck:=S.ck+1 }).1.J).1 },0,(expG { S with ck:=S.ck+1 }).2 ++ (passG bs ch un (expG { S with ck:=S.ck+1 }).1.M (expG { S with ck:=S.ck+1 }).1.J).2)
theorem relJ_core (s:ByteArray)(J:List Jl):(relJ s J).map coreB=J.map coreB:=by
 unfold relJ
 rw [List.map_map]
 refine List.map_congr_left fun x _=>?_
 show coreB (relX s x)=coreB x
 unfold relX
 split <;> rfl
theorem expK_same (S:Sg):∀ k,(expK S k).1.J.map coreB=S.J.map coreB/\(expK S k).1.M.map Prod.snd=S.M.map Prod.snd/\(expK S k).1.Q=S.Q/\(expK S k).1.ck=S.ck/\(expK S k).1.nx=S.nx
 | 0=>⟨rfl,rfl,rfl,rfl,rfl⟩
 | k+1=>by
  rw [expK_succ]
  obtain ⟨h1,h2,h3,h4,h5⟩:=expK_same S k
  unfold expS
  split
  ·exact ⟨(relJ_core _ _).trans h1,(map_set_same fun hp=>by rw [ml_at hp];rfl).trans h2,h3,h4,h5⟩
  ·exact ⟨h1,h2,h3,h4,h5⟩
theorem expG_sm {S:Sg}(h:Sm S):Sm (expG S).1:=by
 obtain ⟨h1,h2,h3,h4,h5⟩:=expK_same S S.M.length
 obtain ⟨l1,l2,_⟩:=expK_len (S:=S) S.M.length
 refine ⟨by unfold expG;rw [l1];exact h.M,by unfold expG;rw [h3];exact h.Q,by unfold expG;rw [l2];exact h.J,fun x hx=>?_,fun x hx=>?_,by unfold expG;rw [h5];exact h.nx,by unfold expG;rw [h4];exact h.ck⟩
 ·have hm:x.2 ∈ S.M.map Prod.snd:=by rw [<- h2];exact List.mem_map_of_mem hx
  obtain ⟨y,hy,e⟩:=List.mem_map.1 hm
  rw [<- e];exact h.lM y hy
 ·obtain ⟨y,hy,e⟩:=core_mem (coreB_core h1) hx
  rw [<- (core_tk e).2];exact h.lJ y hy
theorem expG_bo {S:Sg}{m:Int}(h:BoK m S.J):BoK m (expG S).1.J:=fun x hx=>by
 obtain ⟨h1,_⟩:=expK_same S S.M.length
 have hm:coreB x ∈ S.J.map coreB:=by rw [<- h1];exact List.mem_map_of_mem hx
 obtain ⟨y,hy,e⟩:=List.mem_map.1 hm
 have e2:y.1.bo=x.1.bo:=by have h:=congrArg (fun x:Jl=>x.1.bo) e;exact h
 rw [<- e2];exact h y hy
section
variable {w:World}{b g:Nat}{lst:Int}{vM vQ vJ:Value}{S:Sg}
theorem Gs.setC (h:Gs w b g lst vM vQ vJ S) (ck:Int):Wn w (w.setCell ⟨g,0,none⟩ (.int .i64 ck)) b g vM vQ vJ S lst vM vQ vJ { S with ck:=ck }:=by
 have hg:GrP (fun k=>k=g) w (w.setCell ⟨g,0,none⟩ (.int .i64 ck)):=(GrP.refl (fun k=>k=g) w).set (a:=⟨g,0,none⟩) rfl _
 have ho:=h.own.grp hg fun k hk e=>h.ne k hk e
 exact ⟨⟨h.bk.put 0 _,h.nx,⟨ho.M,ho.Q,ho.J,ho.lM,ho.lJ,ho.zM,ho.zQ,ho.zJ⟩,h.le,h.ne⟩,hg.wide fun k _ e=>.inl e,fun k hk=>.inl hk⟩
end
theorem passG_few {bs:Bst}{ch:Chs15}{un:Uns}(hC:ChoK ch)(hU:UniK un){M:List Ml}{J:List Jl}(hJ:J.length<=1000)(hb:BoK 1152921504606846976 J):(passG bs ch un M J).2.length<=1001000:=by
 have h:=(passK_all (bs:=bs) hC (M:=M) (U:=un J) (fun u hu=>Nat.le_trans (hU.few J u hu) hJ) hJ hb (un J).length (Nat.le_refl _)).2.2
 have h2:=hU.len J
 unfold passG
 omega
theorem expG_few {S:Sg}(hM:S.M.length<=1000)(hJ:S.J.length<=1000):(expG S).2.length<=1000000:=by
 have h:=(expK_len (S:=S) S.M.length).2.2
 have h2:S.M.length * S.J.length<=1000 * 1000:=Nat.mul_le_mul hM hJ
 unfold expG
 omega
theorem acts_fit3 {a b:List Ac}(h1:a.length<=1000000)(h2:b.length<=1001000):(cellsA a).length+(cellsA b).length<=maxLen/\((cellsA a).length+(cellsA b).length) * 40<=140737488355328:=by
 rw [cellsA_length,cellsA_length]
 exact ⟨by simp only [maxLen];omega,by omega⟩


theorem tick_any (bs:Bst)(ch:Chs15)(un:Uns)(hB:Hid (BestK bs))(hC:Hid (ChoK ch))(hUn:Hid (UniK un)) (b g:Nat) (lst:Int)(vM vQ vJ:Value)(S:Sg)(w:World)(hG:Hid (Gs w b g lst vM vQ vJ S))(hM:Hid (Sm S))(hbo:Hid (BoK 1152921504606846976 S.J)) :
  Calls Tryz.prog 91 #[.pointer (some ⟨g,0,none⟩)] w fun e w'=>(∃ A n c,e = .returned (.tuple #[.slice A n c,.int .i64 (tickG bs ch un S).2.1])/\RetL w.heap.size w' A n c (tickG bs ch un S).2.2)/\Went w w' b g vM vQ vJ S (tickG bs ch un S).1:=by
 obtain ⟨ck,hck⟩:∃ ck,ck=S.ck:=⟨_,rfl⟩
 have c0:w.cell? ⟨g,0,none⟩=some (.int .i64 ck):=by rw [hck];exact hG.out.bk.cellAt 0
 have f0:w.frozen? ⟨g,0,none⟩=false:=hG.out.bk.free 0
 by_cases hov:1073741824<=ck
 ·have hd:tickG bs ch un S=(S,6,[]):=by unfold tickG;rw [if_pos (by rw [<- hck];exact hov)]
  rw [hd]
  clear hd hck
  go_enter Tryz.func91,Tryz.ntmps91
  go_wp2_with fail
  exact bodyPost_ret (v:=.tuple #[.slice none 0 0,.int .i64 6]) (by simp [results,Tryz.results91,go_sem]) rfl ⟨⟨none,0,0,rfl,RetL.nil _ _⟩,Went.same hG.out (Below.refl _ _)⟩
 ·obtain ⟨S1,hS1⟩:∃ S1:Sg,S1 = { S with ck:=ck+1 }:=⟨_,rfl⟩
  obtain ⟨T,hT⟩:∃ T,T=expG S1:=⟨_,rfl⟩
  obtain ⟨P,hP⟩:∃ P,P=passG bs ch un T.1.M T.1.J:=⟨_,rfl⟩
  have hd:tickG bs ch un S=({ T.1 with J:=P.1 },0,T.2 ++ P.2):=by unfold tickG;rw [if_neg (by rw [<- hck];exact hov),<- hck,<- hS1,<- hT,<- hP]
  rw [hd]
  have hck2:0<=ck:=by rw [hck];exact hM.out.ck.1
  have hSm1:Sm S1:=by rw [hS1];exact ⟨hM.out.M,hM.out.Q,hM.out.J,hM.out.lM,hM.out.lJ,hM.out.nx,⟨show 0<=ck+1 by omega,show ck+1<=4611686018427387904 by omega⟩⟩
  have HW0:Hid (Wn w (w.setCell ⟨g,0,none⟩ (.int .i64 (ck+1))) b g vM vQ vJ S lst vM vQ vJ S1):=by rw [hS1];exact hG.out.setC (ck+1)
  have hbo1:BoK 1152921504606846976 S1.J:=by rw [hS1];exact hbo.out
  have HSmT:Hid (Sm T.1):=by rw [hT];exact expG_sm hSm1
  have HBoT:Hid (BoK 1152921504606846976 T.1.J):=by rw [hT];exact expG_bo hbo1
  have HF1:Hid (T.2.length<=1000000):=by rw [hT];exact expG_few hSm1.M hSm1.J
  have HF2:Hid (P.2.length<=1001000):=by rw [hP];exact passG_few hC.out hUn.out HSmT.out.J HBoT.out
  have KE:=Lib.hid (expire_any b g lst vM vQ vJ S1 _ (Lib.hid HW0.out.gs) hSm1.M hSm1.J)
  rw [<- hT] at KE
  have KP:=Lib.hid (fun (vJ:Value)(W:World)(h:Gs W b g lst vM vQ vJ T.1)=>pass_any bs ch un hB hC hUn b g lst vM vQ vJ T.1 W h HSmT HBoT)
  rw [<- hP] at KP
  have hw1:IntKind.i64.wrap (ck+1)=ck+1:=by rw [IntKind.wrap_i64];omega
  clear hd hck hS1 hT hP hSm1 hbo1 hck2
  go_enter Tryz.func91,Tryz.ntmps91
  go_wp2_with fail
  refine KE.out.mono ?_;rintro e w1 ⟨⟨v1,rfl,hO1⟩,hW1⟩
  have HO1:=Lib.hid hO1;have HW1:=Lib.hid hW1
  clear hO1 hW1 KE c0 f0
  go_wp2_with fail
  refine (KP.out vJ _ HW1.out.gs).mono ?_;rintro e w2 ⟨⟨v2,rfl,hO2⟩,vJ2,hW2⟩
  obtain ⟨A2,c2,hv2,hr2,-,-,-⟩:=hO2.sl
  obtain ⟨m2,hm2⟩:∃ m2,m2=(cellsA P.2).length:=⟨_,rfl⟩
  rw [<- hm2] at hv2
  subst hv2
  have HR2:=Lib.hid hr2;have HM2:=Lib.hid hm2
  have HA2:Hid (OwnK w2 w.heap.size 64 3 v1 (cellsA T.2)):=(hW2.rowA HW1.out.gs HO1.out).base (by simp)
  have HW2:Hid (Wn w w2 b g vM vQ vJ S lst vM vQ vJ2 { T.1 with J:=P.1 }):=(HW0.out.trans HW1.out).trans hW2
  have HSZ:Hid (w.heap.size<=w2.heap.size):=((HW0.out.trans HW1.out).trans hW2).gr.size
  have HFIT:=Lib.hid (acts_fit3 HF1.out HF2.out)
  clear hO2 hW2 hr2 hm2 KP HO1 HW1
  go_wp2_with ((with_reducible refine append15_kn _ rfl (.tmp 19) (.tmp 21) 34 rfl w.heap.size 64 _ 3 40 Tryz.underlying34 infoA15 rfl (by omega) v1 (cellsA T.2) rfl HA2.out A2 c2 m2 (cellsA P.2) rfl HR2.out (cellsA_k _) (cellsA_one _) HM2.out HFIT.out.1 HFIT.out.2 HSZ.out ?_);intro v7 w7 hO7 hg7;have HW7:=Lib.hid (HW2.out.acts HA2.out hg7 (Nat.le_refl _));have HO7:Hid (OwnK w7 w.heap.size 64 3 v7 (cellsA (T.2 ++ P.2))):=(by rw [cellsA_append];exact hO7);clear hO7 hg7)
  obtain ⟨A7,c7,hv7,-,-,-⟩:=HO7.out.acts
  subst hv7
  exact bodyPost_ret (v:=.tuple #[.slice A7 (T.2 ++ P.2).length c7,.int .i64 0]) (by simp [results,Tryz.results91,go_sem]) rfl ⟨⟨A7,_,c7,rfl,RetL.own HO7.out⟩,HW7.out.went rfl⟩
end
section
open Go.RowKit


theorem perform_any9 (bs:Bst)(ch:Chs15)(un:Uns)(hB:BestK bs)(hC:ChoK ch)(hUn:UniK un) (b g:Nat)(vM vQ vJ:Value)(S:Sg)(x:Oz)(hk:x.v.k=9)(hM:Sm S)(hbo:BoK 1152921504606846976 S.J):Performs b g vM vQ vJ S x (tickG bs ch un S):=by
 intro w hG hx
 have k1:=fun (W:World)(h:∃ lst,Gs W b g lst vM vQ vJ S)=>h.elim fun lst h=>tick_any bs ch un hB hC hUn b g lst vM vQ vJ S W h hM hbo
 obtain ⟨R,hR⟩:∃ R,R=tickG bs ch un S:=⟨_,rfl⟩
 rw [<- hR] at k1 ⊢
 have K1:=Lib.hid k1;have HG:=Lib.hid hG
 clear k1 hG hx hM hbo hR hB hC hUn
 obtain ⟨⟨k,nn,a1,b1,c1,l1,qn,a2,b2,c2,tn,tq,tp,a3,b3,c3,l3,ta,tg,ts,s⟩,A1,m1,p1,A3,m3,p3⟩:=x
 simp only at hk
 subst hk
 obtain ⟨R1,err,acts⟩:=R
 obtain ⟨oc,hoc⟩:∃ oc:Array Value,oc = #[.int .i64 9,.string nn,.int .i64 a1,.int .i64 b1,.int .i64 c1,.slice A1 m1 p1,.string qn,.int .i64 a2,.int .i64 b2,.int .i64 c2,.string tn,.string tq,.int .i64 tp,.int .i64 a3,.int .i64 b3,.int .i64 c3,.slice A3 m3 p3,.string ta,.string tg,.int .i64 ts,.string s]:=⟨_,rfl⟩
 have hB0:Below w.heap.size w (w.alloc (.cells #[.int .i64 9,.string nn,.int .i64 a1,.int .i64 b1,.int .i64 c1,.slice A1 m1 p1,.string qn,.int .i64 a2,.int .i64 b2,.int .i64 c2,.string tn,.string tq,.int .i64 tp,.int .i64 a3,.int .i64 b3,.int .i64 c3,.slice A3 m3 p3,.string ta,.string tg,.int .i64 ts,.string s] 49)):=(Below.refl _ _).alloc (Nat.le_refl _) _
 clear hoc
 go_enter Tryz.func44,Tryz.ntmps44
 go_wp2_with fail
 refine (K1.out _ (HG.out.elim fun lst h=>⟨lst,h.below hB0⟩)).mono ?_;rintro e w2 ⟨⟨A,n,c,rfl,hRL⟩,hW⟩
 have HW:=Lib.hid hW;have HR:=Lib.hid hRL;clear hW hRL
 go_wp2_with fail
 exact bodyPost_ret (v:=.tuple #[.slice A n c,.int .i64 err]) (by simp [results,Tryz.results44,go_sem]) rfl ⟨⟨A,n,c,rfl,HR.out.base hB0.size⟩,Went.before hB0 HW.out⟩
section
variable (bs:Bst)(ch:Chs15)(un:Uns)
def opG (S:Sg)(v:Ov):Sg × An:=
 if v.k=1 then addN S v.nn v.a1 v.b1 v.c1 v.l1 else if v.k=2 then dropN' S v.s else if v.k=3 then addQ S (v.qn,v.a2,v.b2,v.c2) else if v.k=4 then dropQ S v.s
 else if v.k=5 then subJ S v.tn v.tq v.tp v.a3 v.b3 v.c3 v.ta v.tg v.ts v.l3 else if v.k=6 then canJ S v.s else if v.k=7 then finJ S v.s else if v.k=8 then beatN S v.s else tickG bs ch un S
def stepG (S:Sg)(v:Ov):Sg × An:=if opB v then opG bs ch un S v else (S,1,[])
end
structure Inv (S:Sg):Prop where
 sm:Sm S
 asc:AscS S
 bo:BoK 1152921504606846976 S.J
theorem performs_any (bs:Bst)(ch:Chs15)(un:Uns)(hB:BestK bs)(hC:ChoK ch)(hUn:UniK un) (b g:Nat)(vM vQ vJ:Value)(S:Sg)(x:Oz)(hI:Inv S)(hb:opB x.v=true)(h1:x.v.l1.length<=1000)(h3:x.v.l3.length<=1000):Performs b g vM vQ vJ S x (opG bs ch un S x.v):=by
 have hk:1<=x.v.k/\x.v.k<=9:=by
  by_cases h:1<=x.v.k/\x.v.k<=9
  ·exact h
  ·rw [opB_no h] at hb;cases hb
 have hc:x.v.k=1 ∨ x.v.k=2 ∨ x.v.k=3 ∨ x.v.k=4 ∨ x.v.k=5 ∨ x.v.k=6 ∨ x.v.k=7 ∨ x.v.k=8 ∨ x.v.k=9:=by omega
 unfold opG
 rcases hc with h | h | h | h | h | h | h | h | h
 ·rw [if_pos h];exact perform_any1 b g vM vQ vJ S x h hI.sm hI.asc h1
 ·rw [if_neg (by omega),if_pos h];exact perform_any2 b g vM vQ vJ S x h hI.sm hI.asc h3
 ·rw [if_neg (by omega),if_neg (by omega),if_pos h];exact perform_any3 b g vM vQ vJ S x h hI.sm hI.asc
 ·rw [if_neg (by omega),if_neg (by omega),if_neg (by omega),if_pos h];exact perform_any4 b g vM vQ vJ S x h hI.sm hI.asc h3
 ·rw [if_neg (by omega),if_neg (by omega),if_neg (by omega),if_neg (by omega),if_pos h];exact perform_any5 b g vM vQ vJ S x h hI.sm hI.asc h3
 ·rw [if_neg (by omega),if_neg (by omega),if_neg (by omega),if_neg (by omega),if_neg (by omega),if_pos h];exact perform_any6 b g vM vQ vJ S x h hI.sm hI.asc h3
 ·rw [if_neg (by omega),if_neg (by omega),if_neg (by omega),if_neg (by omega),if_neg (by omega),if_neg (by omega),if_pos h];exact perform_any7 b g vM vQ vJ S x h hI.sm hI.asc h3
 ·rw [if_neg (by omega),if_neg (by omega),if_neg (by omega),if_neg (by omega),if_neg (by omega),if_neg (by omega),if_neg (by omega),if_pos h];exact perform_any8 b g vM vQ vJ S x h hI.sm hI.asc h3
 ·rw [if_neg (by omega),if_neg (by omega),if_neg (by omega),if_neg (by omega),if_neg (by omega),if_neg (by omega),if_neg (by omega),if_neg (by omega)];exact perform_any9 bs ch un hB hC hUn b g vM vQ vJ S x h hI.sm hI.bo
theorem doG_any (bs:Bst)(ch:Chs15)(un:Uns)(hB:BestK bs)(hC:ChoK ch)(hUn:UniK un) (b g:Nat) (lst:Int)(vM vQ vJ:Value)(S:Sg)(x:Oz)(w:World)(hG:Gs w b g lst vM vQ vJ S)(hI:Inv S)(hx:OzOk w x)(h1:x.v.l1.length<=1000)(h3:x.v.l3.length<=1000) :
  Calls Tryz.prog 18 #[.pointer (some ⟨g,0,none⟩),.agg x.arr] w fun e w'=>
   (∃ A n c,e = .returned (.agg #[.int .i64 (stepG bs ch un S x.v).2.1,.slice A n c])/\RetL w.heap.size w' A n c (stepG bs ch un S x.v).2.2)/\Went w w' b g vM vQ vJ S (stepG bs ch un S x.v).1:=by
 have h:=do_any b g vM vQ vJ S x (opG bs ch un S x.v) w ⟨lst,hG⟩ hx fun hb=>performs_any bs ch un hB hC hUn b g vM vQ vJ S x hI hb h1 h3
 unfold stepG
 cases hb:opB x.v with
 | true=>rw [hb] at h;exact h
 | false=>rw [hb] at h;exact h
end
section
open Go.RowKit
theorem ascK_pw {K:List ByteArray}:AscK K ↔ K.Pairwise fun a b=>sL a b=true:=by
 unfold AscK
 rw [List.pairwise_iff_getElem]
theorem ascK_erase {K:List ByteArray}(h:AscK K) (p:Nat):AscK (K.eraseIdx p):=ascK_pw.2 ((ascK_pw.1 h).sublist (List.eraseIdx_sublist _ _))
theorem ascK_ins {s:ByteArray}{K:List ByteArray}(h:AscK K)(hn:hasK s K=false):AscK (K.take (lbK s K) ++ s :: K.drop (lbK s K)):=by
 have hlt:∀ x ∈ K.take (lbK s K),sL x s=true:=fun x hx=>by
  obtain ⟨t,ht,rfl⟩:=List.getElem_of_mem hx
  rw [List.getElem_take]
  rw [List.length_take] at ht
  exact lbK_lt (by omega) (by omega)
 have hge:∀ y ∈ K.drop (lbK s K),sL s y=true:=fun y hy=>by
  obtain ⟨t,ht,rfl⟩:=List.getElem_of_mem hy
  rw [List.length_drop] at ht
  rw [List.getElem_drop]
  have hm:lbK s K<K.length:=by omega
  have h0:sL s K[lbK s K]=true:=by
   rcases sL_total (lbK_at hm) with h1 | h1
   ·exact h1
   ·exfalso
    have:hasK s K=true:=List.any_eq_true.2 ⟨_,List.getElem_mem hm,by rw [h1];exact sE_refl s⟩
    rw [this] at hn;cases hn
  by_cases e:t=0
  ·subst e;exact h0
  ·exact sL_trans h0 (h _ _ hm (by omega) (by omega))
 have hp:=ascK_pw.1 h
 refine ascK_pw.2 (List.pairwise_append.2 ⟨hp.sublist (List.take_sublist _ _),List.pairwise_cons.2 ⟨hge,hp.sublist (List.drop_sublist _ _)⟩,fun x hx y hy=>?_⟩)
 rcases List.mem_cons.1 hy with rfl | hy
 ·exact hlt x hx
 ·exact sL_trans (hlt x hx) (hge y hy)
theorem keyM_ins (q:Ml)(M:List Ml):keyM (insM q M)=(keyM M).take (lbK q.1.nm (keyM M)) ++ q.1.nm :: (keyM M).drop (lbK q.1.nm (keyM M)):=by
 unfold insM;simp [keyM,List.map_take,List.map_drop]
theorem keyQ_ins (q:Qx)(Q:List Qx):keyQ (insQ q Q)=(keyQ Q).take (lbK q.1 (keyQ Q)) ++ q.1 :: (keyQ Q).drop (lbK q.1 (keyQ Q)):=by
 unfold insQ;simp [keyQ,List.map_take,List.map_drop]
theorem keyM_erase (M:List Ml) (p:Nat):keyM (M.eraseIdx p)=(keyM M).eraseIdx p:=by
 rw [List.eraseIdx_eq_take_drop_succ,List.eraseIdx_eq_take_drop_succ];simp [keyM,List.map_take,List.map_drop]
theorem keyQ_erase (Q:List Qx) (p:Nat):keyQ (Q.eraseIdx p)=(keyQ Q).eraseIdx p:=by
 rw [List.eraseIdx_eq_take_drop_succ,List.eraseIdx_eq_take_drop_succ];simp [keyQ,List.map_take,List.map_drop]
structure In2 (m:Int)(S:Sg):Prop where
 M:S.M.length<=16
 Q:S.Q.length<=8
 J:S.J.length<=48
 lM:∀ x ∈ S.M,x.2.length<=1000
 lJ:∀ x ∈ S.J,x.2.length<=1000
 nx:1<=S.nx/\S.nx<=1073741824
 ck:0<=S.ck/\S.ck<=1073741824
 aM:AscK (keyM S.M)
 aQ:AscK (keyQ S.Q)
 bo:BoK m S.J
theorem In2.inv {m:Int}{S:Sg}(h:In2 m S)(hm:m<=1152921504606846976):Inv S:=
 ⟨⟨by have:=h.M;omega,by have:=h.Q;omega,by have:=h.J;omega,h.lM,h.lJ,by have:=h.nx;omega,by have:=h.ck;omega⟩,⟨h.aM,h.aQ⟩,h.bo.up hm⟩
theorem In2.up {m m':Int}{S:Sg}(h:In2 m S)(hm:m<=m'):In2 m' S:=⟨h.M,h.Q,h.J,h.lM,h.lJ,h.nx,h.ck,h.aM,h.aQ,h.bo.up hm⟩
section
variable {m:Int}{S:Sg}
theorem In2.addN (h:In2 m S)(nm:ByteArray) (a b c:Int)(l:List Lb)(hl:l.length<=1000):In2 m (addN S nm a b c l).1:=by
 unfold Go.Proofs.YtccccbofcnmdiaaGreat.addN
 cases hf:hasK nm (keyM S.M) with
 | true=>exact h
 | false=>
  rw [if_neg (by decide)]
  split
  ·exact h
  ·next hs=>
   refine ⟨?_,h.Q,h.J,fun x hx=>?_,h.lJ,h.nx,h.ck,?_,h.aQ,h.bo⟩
   ·show (insM _ _).length<=16
    have h1:=lbK_le nm (keyM S.M)
    rw [List.length_map] at h1
    unfold insM
    rw [List.length_append,List.length_cons,List.length_take,List.length_drop]
    show min (lbK nm (keyM S.M)) _+(_ - lbK nm (keyM S.M)+1)<=16
    omega
   ·have hx':x ∈ insM (newM S.ck nm a b c none 0 0 l) S.M:=hx
    unfold insM at hx'
    rcases List.mem_append.1 hx' with hx | hx
    ·exact h.lM x (List.mem_of_mem_take hx)
    ·rcases List.mem_cons.1 hx with rfl | hx
     ·exact hl
     ·exact h.lM x (List.mem_of_mem_drop hx)
   ·show AscK (keyM (insM _ _))
    rw [keyM_ins]
    exact ascK_ins h.aM hf
theorem In2.addQ (h:In2 m S)(q:Qx):In2 m (addQ S q).1:=by
 unfold Go.Proofs.YtccccbofcnmdiaaGreat.addQ
 cases hf:hasK q.1 (S.Q.map fun q=>q.1) with
 | true=>exact h
 | false=>
  rw [if_neg (by decide)]
  split
  ·exact h
  ·next hs=>
   refine ⟨h.M,?_,h.J,h.lM,h.lJ,h.nx,h.ck,h.aM,?_,h.bo⟩
   ·show (insQ _ _).length<=8
    have h1:=lbK_le q.1 (keyQ S.Q)
    rw [List.length_map] at h1
    unfold insQ
    rw [List.length_append,List.length_cons,List.length_take,List.length_drop]
    show min (lbK q.1 (keyQ S.Q)) _+(_ - lbK q.1 (keyQ S.Q)+1)<=8
    omega
   ·show AscK (keyQ (insQ _ _))
    rw [keyQ_ins]
    exact ascK_ins h.aQ hf
theorem BoK.sub {J K:List Jl}(h:BoK m K)(hs:∀ x ∈ J,x ∈ K):BoK m J:=fun x hx=>h x (hs x hx)
theorem BoK.same {J K:List Jl}(h:BoK m K)(hc:J.map coreB=K.map coreB):BoK m J:=fun x hx=>by
 have hm:coreB x ∈ K.map coreB:=by rw [<- hc];exact List.mem_map_of_mem hx
 obtain ⟨y,hy,e⟩:=List.mem_map.1 hm
 have e2:y.1.bo=x.1.bo:=by have h:=congrArg (fun x:Jl=>x.1.bo) e;exact h
 rw [<- e2];exact h y hy
theorem lab_same {J K:List Jl}(hc:J.map core=K.map core)(h:∀ x ∈ K,x.2.length<=1000):∀ x ∈ J,x.2.length<=1000:=fun x hx=>by
 obtain ⟨y,hy,e⟩:=core_mem hc hx
 rw [<- (core_tk e).2];exact h y hy
theorem In2.withJ {m':Int}{J:List Jl}(h:In2 m S)(hc:J.map core=S.J.map core)(hb:BoK m' J):In2 m' { S with J:=J }:=
 ⟨h.M,h.Q,by have:=congrArg List.length hc;rw [List.length_map,List.length_map] at this;show J.length<=48;rw [this];exact h.J,h.lM,lab_same hc h.lJ,h.nx,h.ck,h.aM,h.aQ,hb⟩
theorem In2.cutJ (h:In2 m S) (p:Nat):In2 m { S with J:=S.J.eraseIdx p }:=
 ⟨h.M,h.Q,Nat.le_trans (List.length_eraseIdx_le _ _) h.J,h.lM,fun x hx=>h.lJ x (List.mem_of_mem_eraseIdx hx),h.nx,h.ck,h.aM,h.aQ,h.bo.sub fun x hx=>List.mem_of_mem_eraseIdx hx⟩
theorem In2.dropN (h:In2 m S)(s:ByteArray):In2 m (dropN' S s).1:=by
 unfold dropN'
 split
 ·have h1:In2 m { S with J:=relJ s S.J }:=h.withJ (coreB_core (relJ_core s S.J)) (h.bo.same (relJ_core s S.J))
  exact ⟨Nat.le_trans (List.length_eraseIdx_le _ _) h.M,h.Q,h1.J,fun x hx=>h.lM x (List.mem_of_mem_eraseIdx hx),h1.lJ,h.nx,h.ck,by show AscK (keyM (S.M.eraseIdx _));rw [keyM_erase];exact ascK_erase h.aM _,h.aQ,h1.bo⟩
 ·exact h
theorem In2.dropQ (h:In2 m S)(s:ByteArray):In2 m (dropQ S s).1:=by
 unfold Go.Proofs.YtccccbofcnmdiaaGreat.dropQ
 split
 ·split
  ·exact h
  ·exact ⟨h.M,Nat.le_trans (List.length_eraseIdx_le _ _) h.Q,h.J,h.lM,h.lJ,h.nx,h.ck,h.aM,by show AscK (keyQ (S.Q.eraseIdx _));rw [keyQ_erase];exact ascK_erase h.aQ _,h.bo⟩
 ·exact h
theorem In2.canJ (h:In2 m S)(s:ByteArray):In2 m (canJ S s).1:=by
 unfold Go.Proofs.YtccccbofcnmdiaaGreat.canJ
 split
 ·exact h
 ·exact h.cutJ _
theorem In2.finJ (h:In2 m S)(s:ByteArray):In2 m (finJ S s).1:=by
 unfold Go.Proofs.YtccccbofcnmdiaaGreat.finJ
 split
 ·exact h
 ·split
  ·exact h
  ·exact h.cutJ _
theorem map_modify_same {α β:Type}{f:α->β}{g:α->α}{l:List α}{p:Nat}(h:∀ x,f (g x)=f x):(l.modify p g).map f=l.map f:=by
 by_cases hp:p<l.length
 ·rw [modify_set hp];exact map_set_same fun _=>h _
 ·rw [List.modify_eq_self (by omega)]
theorem In2.beatN (h:In2 m S)(s:ByteArray):In2 m (beatN S s).1:=by
 unfold Go.Proofs.YtccccbofcnmdiaaGreat.beatN
 split
 ·refine ⟨by show (S.M.modify _ _).length<=16;rw [List.length_modify];exact h.M,h.Q,h.J,fun x hx=>?_,h.lJ,h.nx,h.ck,?_,h.aQ,h.bo⟩
  ·have h1:(S.M.modify (lbK s (keyM S.M)) (upX S.ck)).map Prod.snd=S.M.map Prod.snd:=map_modify_same fun _=>rfl
   have hm:x.2 ∈ S.M.map Prod.snd:=by rw [<- h1];exact List.mem_map_of_mem hx
   obtain ⟨y,hy,e⟩:=List.mem_map.1 hm
   rw [<- e];exact h.lM y hy
  ·show AscK (keyM (S.M.modify _ _))
   rw [show keyM (S.M.modify (lbK s (keyM S.M)) (upX S.ck))=keyM S.M from map_modify_same fun _=>rfl]
   exact h.aM
 ·exact h
theorem In2.subJ (h:In2 m S)(hm:0<=m)(nm qu:ByteArray) (pr a b c:Int)(ap ga:ByteArray) (sz:Int)(l:List Lb)(hl:l.length<=1000):In2 m (subJ S nm qu pr a b c ap ga sz l).1:=by
 unfold Go.Proofs.YtccccbofcnmdiaaGreat.subJ
 split
 ·exact h
 split
 ·exact h
 split
 ·exact h
 split
 ·exact h
 split
 ·exact h
 ·next h5 h4 h3 h2 h1=>
  have hmem:∀ x ∈ S.J ++ [newJ S.nx nm qu pr a b c none 0 0 ap ga sz l],x ∈ S.J ∨ x=newJ S.nx nm qu pr a b c none 0 0 ap ga sz l:=fun x hx=>(List.mem_append.1 hx).imp id List.mem_singleton.1
  refine ⟨h.M,h.Q,?_,h.lM,fun x hx=>?_,?_,h.ck,h.aM,h.aQ,fun x hx=>?_⟩
  ·show (S.J ++ [_]).length<=48;rw [List.length_append,List.length_singleton];omega
  ·rcases hmem x hx with hx | rfl
   ·exact h.lJ x hx
   ·exact hl
  ·show 1<=S.nx+1/\S.nx+1<=1073741824;have:=h.nx;omega
  ·rcases hmem x hx with hx | rfl
   ·exact h.bo x hx
   ·exact ⟨by show (_:Int)<=0;omega,hm⟩
theorem expK_key (S:Sg):∀ k,keyM (expK S k).1.M=keyM S.M
 | 0=>rfl
 | k+1=>by
  rw [expK_succ]
  have ih:=expK_key S k
  unfold expS
  split
  ·exact (map_set_same fun hp=>by rw [ml_at hp];rfl).trans ih
  ·exact ih
theorem passK_bo {bs:Bst}{ch:Chs15}{M:List Ml}{J:List Jl}{U:List (List Nat)}(hm:0<=m)(hU:∀ u ∈ U,u.length<=1000)(hb:BoK m J):∀ k,k<=U.length->(passK bs ch M J U k).1.map core=J.map core/\BoK (m+1001 * (k:Int)) (passK bs ch M J U k).1
 | 0,_=>⟨rfl,hb.up (by omega)⟩
 | k+1,hk=>by
  obtain ⟨h1,h2⟩:=passK_bo (bs:=bs) (ch:=ch) (M:=M) hm hU hb k (by omega)
  have hu:=hU _ (List.getElem_mem (show k<U.length by omega))
  rw [passK_succ (by omega)]
  exact ⟨unitG_core.trans h1,(unitG_bok (by omega) hu h2).up (by omega)⟩
theorem In2.expG (h:In2 m S):In2 m (expG S).1:=by
 obtain ⟨h1,h2,h3,h4,h5⟩:=expK_same S S.M.length
 obtain ⟨l1,l2,_⟩:=expK_len (S:=S) S.M.length
 refine ⟨by unfold Go.Proofs.YtccccbofcnmdiaaGreat.expG;rw [l1];exact h.M,by unfold Go.Proofs.YtccccbofcnmdiaaGreat.expG;rw [h3];exact h.Q,by unfold Go.Proofs.YtccccbofcnmdiaaGreat.expG;rw [l2];exact h.J,fun x hx=>?_,fun x hx=>?_,by unfold Go.Proofs.YtccccbofcnmdiaaGreat.expG;rw [h5];exact h.nx,by unfold Go.Proofs.YtccccbofcnmdiaaGreat.expG;rw [h4];exact h.ck,by unfold Go.Proofs.YtccccbofcnmdiaaGreat.expG;rw [expK_key];exact h.aM,by unfold Go.Proofs.YtccccbofcnmdiaaGreat.expG;rw [h3];exact h.aQ,by unfold Go.Proofs.YtccccbofcnmdiaaGreat.expG;exact h.bo.same h1⟩
 ·have hm:x.2 ∈ S.M.map Prod.snd:=by rw [<- h2];exact List.mem_map_of_mem hx
  obtain ⟨y,hy,e⟩:=List.mem_map.1 hm
  rw [<- e];exact h.lM y hy
 ·exact lab_same (coreB_core h1) h.lJ x hx
theorem In2.tickG {bs:Bst}{ch:Chs15}{un:Uns}(hU:UniK un)(h:In2 m S)(hm:0<=m):In2 (m+1001000) (tickG bs ch un S).1:=by
 unfold Go.Proofs.YtccccbofcnmdiaaGreat.tickG
 split
 ·exact h.up (by omega)
 ·next hov=>
  have h1:In2 m { S with ck:=S.ck+1 }:=⟨h.M,h.Q,h.J,h.lM,h.lJ,h.nx,(show 0<=S.ck+1/\S.ck+1<=1073741824 by have:=h.ck;omega),h.aM,h.aQ,h.bo⟩
  have h2:=h1.expG
  obtain ⟨T,hT⟩:∃ T,T=Go.Proofs.YtccccbofcnmdiaaGreat.expG { S with ck:=S.ck+1 }:=⟨_,rfl⟩
  rw [<- hT] at h2 ⊢
  have hb:=passK_bo (bs:=bs) (ch:=ch) (M:=T.1.M) hm (fun u hu=>Nat.le_trans (hU.few T.1.J u hu) (Nat.le_trans h2.J (by decide))) h2.bo (un T.1.J).length (Nat.le_refl _)
  have hl:=Nat.le_trans (hU.len T.1.J) h2.J
  exact h2.withJ hb.1 (hb.2.up (by omega))
theorem In2.step {bs:Bst}{ch:Chs15}{un:Uns}(hU:UniK un)(h:In2 m S)(hm:0<=m)(v:Ov)(hl1:v.l1.length<=1000)(hl3:v.l3.length<=1000):In2 (m+1001000) (stepG bs ch un S v).1:=by
 have hu:m<=m+1001000:=by omega
 unfold stepG
 split
 ·unfold opG
  split
  ·exact (h.addN _ _ _ _ _ hl1).up hu
  split
  ·exact (h.dropN _).up hu
  split
  ·exact (h.addQ _).up hu
  split
  ·exact (h.dropQ _).up hu
  split
  ·exact (h.subJ hm _ _ _ _ _ _ _ _ _ _ hl3).up hu
  split
  ·exact (h.canJ _).up hu
  split
  ·exact (h.finJ _).up hu
  split
  ·exact (h.beatN _).up hu
  ·exact h.tickG hU hm
 ·exact h.up hu
end
theorem in2_new:In2 0 Sg.new:=⟨by decide,by decide,by decide,fun x hx=>(by cases hx),fun x hx=>(by cases hx),by decide,by decide,fun i j hi=>(by cases hi),fun i j hi=>(by cases hi),fun x hx=>(by cases hx)⟩
end
section
open Go.RowKit
structure Bare3 (bs:Bst)(ch:Chs15)(un:Uns):Prop where
 b:∀ M J p,bs (bM M) (bL J) p=bs M J p
 c:∀ M J p,ch (bM M) (bL J) p=ch M J p
 u:∀ J,un (bL J)=un J
theorem map_erase {α β:Type}(f:α->β)(l:List α) (p:Nat):(l.eraseIdx p).map f=(l.map f).eraseIdx p:=by
 rw [List.eraseIdx_eq_take_drop_succ,List.eraseIdx_eq_take_drop_succ,List.map_append,List.map_take,List.map_drop]
theorem map_modify2 {α:Type}{f g:α->α}{l:List α}{p:Nat}(h:∀ x,f (g x)=g (f x)):(l.modify p g).map f=(l.map f).modify p g:=by
 by_cases hp:p<l.length
 ·rw [modify_set hp,modify_set (by simpa using hp),List.map_set,List.getElem_map,h]
 ·rw [List.modify_eq_self (by omega),List.modify_eq_self (by simp;omega)]
theorem keyM_bare (M:List Ml):keyM (bM M)=keyM M:=by unfold keyM bM;rw [List.map_map];rfl
theorem hasJ_bare (s:ByteArray)(J:List Jl):hasJ s (bL J)=hasJ s J:=by unfold hasJ bL;rw [List.any_map];rfl
theorem jbs_bare (J:List Jl):jbs (bL J)=bJ (jbs J):=by unfold jbs bL bJ;rw [List.map_map,List.map_map];rfl
theorem fnd_bare (s:ByteArray):∀ (k:Nat)(l:List Jb),fnd s k (bJ l)=fnd s k l
 | k,[]=>rfl
 | k,j :: l=>by
  show fnd s k (j.bare :: bJ l)=_
  unfold fnd
  rw [fnd_bare s (k+1) l];rfl
theorem plJ_bare (s:ByteArray)(J:List Jl):plJ s (bL J)=plJ s J:=by unfold plJ;rw [jbs_bare,fnd_bare]
theorem jl_bare (J:List Jl) (p:Nat):jl (bL J) p=bY (jl J p):=by
 by_cases hp:p<J.length
 ·rw [jl_at hp,jl_at (show p<(bL J).length by simpa using hp)];simp only [bL,List.getElem_map]
 ·rw [jl_no (J:=J) (show J.length<=p by omega),jl_no (J:=bL J) (show (bL J).length<=p by rw [List.length_map];omega)];rfl
theorem ml_bare (M:List Ml) (p:Nat):ml (bM M) p=bX (ml M p):=by
 by_cases hp:p<M.length
 ·rw [ml_at hp,ml_at (show p<(bM M).length by simpa using hp)];simp only [bM,List.getElem_map]
 ·unfold ml;rw [List.getD_eq_getElem?_getD,List.getD_eq_getElem?_getD,List.getElem?_eq_none (l:=bM M) (show (bM M).length<=p by rw [List.length_map];omega),List.getElem?_eq_none (l:=M) (show M.length<=p by omega)];rfl
theorem relJ_bare (s:ByteArray)(J:List Jl):relJ s (bL J)=bL (relJ s J):=by
 unfold relJ bL
 rw [List.map_map,List.map_map]
 refine List.map_congr_left fun x _=>?_
 show relX s (bY x)=bY (relX s x)
 unfold relX
 show (if sE x.1.nd s then _ else _)=_
 cases sE x.1.nd s <;> rfl
theorem relA_bare (s:ByteArray)(J:List Jl):relA s (bL J)=relA s J:=by
 unfold relA bL
 rw [List.filter_map,List.map_map];rfl
theorem ofQ_bare (s:ByteArray)(l:List Jb):ofQ s (bJ l)=ofQ s l:=by
 unfold ofQ bJ
 rw [List.filter_map,List.map_map];rfl
theorem admQ_bare (q:Qx)(J:List Jl) (d e f:Int):admQ q (bL J) d e f=admQ q J d e f:=by unfold admQ usdJ;rw [jbs_bare,ofQ_bare]
theorem insM_bare2 (q:Ml)(M:List Ml):insM (bX q) (bM M)=bM (insM q M):=by
 unfold insM
 rw [keyM_bare]
 show (bM M).take (lbK q.1.nm (keyM M)) ++ bX q :: (bM M).drop (lbK q.1.nm (keyM M))=_
 simp only [bM,List.map_append,List.map_cons,List.map_take,List.map_drop]
section
variable {bs:Bst}{ch:Chs15}{un:Uns}{S:Sg}{M:List Ml}{J:List Jl}
def bR (R:Sg × An):Sg × An:=(R.1.bare,R.2)
theorem addN_bare (nm:ByteArray) (a b c:Int)(l:List Lb):addN S.bare nm a b c l=bR (addN S nm a b c l):=by
 unfold addN
 show (if hasK nm (keyM (bM S.M)) then _ else if 16<=(bM S.M).length then _ else _)=_
 rw [keyM_bare,List.length_map]
 split
 ·rfl
 ·split
  ·rfl
  ·show ((⟨S.ck,S.nx,insM (newM S.ck nm a b c none 0 0 l) (bM S.M),S.Q,bL S.J⟩:Sg),_)=((⟨S.ck,S.nx,bM (insM (newM S.ck nm a b c none 0 0 l) S.M),S.Q,bL S.J⟩:Sg),_)
   rw [<- insM_bare2];rfl
theorem addQ_bare (q:Qx):addQ S.bare q=bR (addQ S q):=by
 unfold addQ
 show (if hasK q.1 (S.Q.map fun q=>q.1) then _ else if 8<=S.Q.length then _ else _)=_
 split
 ·rfl
 ·split <;> rfl
theorem dropN_bare (s:ByteArray):dropN' S.bare s=bR (dropN' S s):=by
 unfold dropN'
 show (if hasK s (keyM (bM S.M)) then _ else _)=_
 rw [keyM_bare]
 split
 ·show ((⟨S.ck,S.nx,(bM S.M).eraseIdx (lbK s (keyM (bM S.M))),S.Q,relJ s (bL S.J)⟩:Sg),_,relA s (bL S.J))=((⟨S.ck,S.nx,bM (S.M.eraseIdx (lbK s (keyM S.M))),S.Q,bL (relJ s S.J)⟩:Sg),_,relA s S.J)
  rw [keyM_bare,relJ_bare,relA_bare];unfold bM;rw [map_erase]
 ·rfl
theorem dropQ_bare (s:ByteArray):dropQ S.bare s=bR (dropQ S s):=by
 unfold dropQ
 show (if hasK s (keyQ S.Q) then (if hasJ s (bL S.J) then _ else _) else _)=_
 rw [hasJ_bare]
 split
 ·split <;> rfl
 ·rfl
theorem beatN_bare (s:ByteArray):beatN S.bare s=bR (beatN S s):=by
 unfold beatN
 show (if hasK s (keyM (bM S.M)) then _ else _)=_
 rw [keyM_bare]
 split
 ·show ((⟨S.ck,S.nx,(bM S.M).modify (lbK s (keyM (bM S.M))) (upX S.ck),S.Q,bL S.J⟩:Sg),_)=((⟨S.ck,S.nx,bM (S.M.modify (lbK s (keyM S.M)) (upX S.ck)),S.Q,bL S.J⟩:Sg),_)
  rw [keyM_bare];unfold bM;rw [map_modify2 (f:=bX) (g:=upX S.ck) (fun _=>rfl)]
 ·rfl
theorem canJ_bare (s:ByteArray):canJ S.bare s=bR (canJ S s):=by
 unfold canJ
 show (if plJ s (bL S.J)<0 then _ else ((⟨S.ck,S.nx,bM S.M,S.Q,(bL S.J).eraseIdx (plJ s (bL S.J)).toNat⟩:Sg),(0:Int),if wB (jl (bL S.J) (plJ s (bL S.J)).toNat).1.nd then [] else [((3:Int),(jl (bL S.J) (plJ s (bL S.J)).toNat).1.nm,(jl (bL S.J) (plJ s (bL S.J)).toNat).1.nd)]))=_
 rw [plJ_bare,jl_bare]
 split
 ·rfl
 ·show _=((⟨S.ck,S.nx,bM S.M,S.Q,bL (S.J.eraseIdx (plJ s S.J).toNat)⟩:Sg),_)
  unfold bL;rw [map_erase];rfl
theorem finJ_bare (s:ByteArray):finJ S.bare s=bR (finJ S s):=by
 unfold finJ
 show (if plJ s (bL S.J)<0 then _ else if wB (jl (bL S.J) (plJ s (bL S.J)).toNat).1.nd then _ else ((⟨S.ck,S.nx,bM S.M,S.Q,(bL S.J).eraseIdx (plJ s (bL S.J)).toNat⟩:Sg),(0:Int),([]:List Ac)))=_
 rw [plJ_bare,jl_bare]
 split
 ·rfl
 ·show (if wB (jl S.J (plJ s S.J).toNat).1.nd then _ else _)=_
  split
  ·rfl
  ·show _=((⟨S.ck,S.nx,bM S.M,S.Q,bL (S.J.eraseIdx (plJ s S.J).toNat)⟩:Sg),_)
   unfold bL;rw [map_erase]
theorem subJ_bare (nm qu:ByteArray) (pr a b c:Int)(ap ga:ByteArray) (sz:Int)(l:List Lb):subJ S.bare nm qu pr a b c ap ga sz l=bR (subJ S nm qu pr a b c ap ga sz l):=by
 unfold subJ
 show (if 0<=plJ nm (bL S.J) then _ else if hasK qu (keyQ S.Q)=false then _ else if 48<=(bL S.J).length then _ else if admQ (ql S.Q (lbK qu (keyQ S.Q))) (bL S.J) a b c ≠ 0 then (S.bare,admQ (ql S.Q (lbK qu (keyQ S.Q))) (bL S.J) a b c,_) else if 1073741824<=S.nx then _ else ((⟨S.ck,S.nx+1,bM S.M,S.Q,bL S.J ++ [newJ S.nx nm qu pr a b c none 0 0 ap ga sz l]⟩:Sg),_))=_
 rw [plJ_bare,List.length_map,admQ_bare]
 split
 ·rfl
 split
 ·rfl
 split
 ·rfl
 split
 ·rfl
 split
 ·rfl
 ·show _=((⟨S.ck,S.nx+1,bM S.M,S.Q,bL (S.J ++ [newJ S.nx nm qu pr a b c none 0 0 ap ga sz l])⟩:Sg),_)
  unfold bL;rw [List.map_append];rfl
theorem expS_bare (T:Sg × List Ac) (i:Nat):expS (T.1.bare,T.2) i=((expS T i).1.bare,(expS T i).2):=by
 unfold expS
 show (if late T.1.ck (ml (bM T.1.M) i) then ((⟨T.1.ck,T.1.nx,(bM T.1.M).set i (downX (ml (bM T.1.M) i)),T.1.Q,relJ (ml (bM T.1.M) i).1.nm (bL T.1.J)⟩:Sg),T.2 ++ relA (ml (bM T.1.M) i).1.nm (bL T.1.J)) else _)=_
 rw [ml_bare]
 show (if late T.1.ck (ml T.1.M i) then ((⟨T.1.ck,T.1.nx,(bM T.1.M).set i (bX (downX (ml T.1.M i))),T.1.Q,relJ (ml T.1.M i).1.nm (bL T.1.J)⟩:Sg),T.2 ++ relA (ml T.1.M i).1.nm (bL T.1.J)) else _)=_
 rw [relJ_bare,relA_bare]
 split
 ·show _=((⟨T.1.ck,T.1.nx,bM (T.1.M.set i (downX (ml T.1.M i))),T.1.Q,bL (relJ (ml T.1.M i).1.nm T.1.J)⟩:Sg),_)
  unfold bM;rw [List.map_set]
 ·rfl
theorem expK_bare:∀ k,expK S.bare k=((expK S k).1.bare,(expK S k).2)
 | 0=>rfl
 | k+1=>by rw [expK_succ,expK_succ,expK_bare k,expS_bare]
theorem expG_bare:expG S.bare=((expG S).1.bare,(expG S).2):=by
 unfold expG
 rw [show S.bare.M.length=S.M.length from List.length_map _]
 exact expK_bare _
theorem bindJ_bare (s:ByteArray) (p:Nat):bindJ s p (bL J)=bL (bindJ s p J):=by
 unfold bindJ
 rw [jl_bare]
 unfold bL
 rw [List.map_set];rfl
theorem tryK_bare (hB:Bare3 bs ch un)(u:List Nat):∀ k,tryK bs (bM M) (bL J) u k=(tryK bs M J u k).map fun r=>(bL r.1,r.2)
 | 0=>rfl
 | k+1=>by
  unfold tryK
  rw [tryK_bare hB u k]
  cases tryK bs M J u k with
  | none=>rfl
  | some r=>
   show (if (bs (bM M) (bL r.1) (u.getD k 0)).2 then some (bindJ (bs (bM M) (bL r.1) (u.getD k 0)).1 (u.getD k 0) (bL r.1),r.2 ++ [(1,(jl (bL r.1) (u.getD k 0)).1.nm,(bs (bM M) (bL r.1) (u.getD k 0)).1)]) else none)=Option.map _ (if (bs M r.1 (u.getD k 0)).2 then some (bindJ (bs M r.1 (u.getD k 0)).1 (u.getD k 0) r.1,r.2 ++ [(1,(jl r.1 (u.getD k 0)).1.nm,(bs M r.1 (u.getD k 0)).1)]) else none)
   rw [hB.b,bindJ_bare,jl_bare]
   split <;> rfl
theorem outS_bare (T:List Jl × List Ac)(s:ByteArray):outS (bL T.1,T.2) s=(bL (outS T s).1,(outS T s).2):=by
 unfold outS
 show ((bL T.1).set (plJ s (bL T.1)).toNat (restX (jl (bL T.1) (plJ s (bL T.1)).toNat)),T.2 ++ [((2:Int),(jl (bL T.1) (plJ s (bL T.1)).toNat).1.nm,(jl (bL T.1) (plJ s (bL T.1)).toNat).1.nd)])=_
 rw [plJ_bare,jl_bare]
 show _=(bL (T.1.set (plJ s T.1).toNat (restX (jl T.1 (plJ s T.1).toNat))),_)
 unfold bL
 rw [List.map_set];rfl
theorem evK_bare (names:List ByteArray):∀ k,k<=names.length->evK (bL J) names k=(bL (evK J names k).1,(evK J names k).2)
 | 0,_=>rfl
 | k+1,hk=>by rw [evK_succ (by omega),evK_succ (by omega),evK_bare names k (by omega),outS_bare]
theorem preG_bare (hB:Bare3 bs ch un) (p:Nat):preG ch (bM M) (bL J) p=(bL (preG ch M J p).1,(preG ch M J p).2):=by
 unfold preG
 rw [hB.c,evK_bare _ _ (Nat.le_refl _)]
 show (if (ch M J p).2.2 then (bindJ (ch M J p).1 p (bL (evK J (ch M J p).2.1 (ch M J p).2.1.length).1),(evK J (ch M J p).2.1 (ch M J p).2.1.length).2 ++ [((1:Int),(jl (bL (evK J (ch M J p).2.1 (ch M J p).2.1.length).1) p).1.nm,(ch M J p).1)]) else _)=_
 rw [bindJ_bare,jl_bare]
 split <;> rfl
theorem unitG_bare (hB:Bare3 bs ch un)(X:List Jl × List Ac)(u:List Nat):unitG bs ch (bM M) (bL X.1,X.2) u=(bL (unitG bs ch M X u).1,(unitG bs ch M X u).2):=by
 unfold unitG
 show (match tryK bs (bM M) (bL X.1) u u.length with | some r=>(r.1,X.2 ++ r.2) | none=>if (jl (bL X.1) (u.getD 0 0)).1.ga.size=0 then ((preG ch (bM M) (bL X.1) (u.getD 0 0)).1,X.2 ++ (preG ch (bM M) (bL X.1) (u.getD 0 0)).2) else (bL X.1,X.2))=_
 rw [tryK_bare hB,jl_bare,preG_bare hB]
 cases tryK bs M X.1 u u.length with
 | some r=>rfl
 | none=>
  show (if (jl X.1 (u.getD 0 0)).1.ga.size=0 then _ else _)=_
  simp only
  split <;> rfl
theorem passK_bare (hB:Bare3 bs ch un)(U:List (List Nat)):∀ k,k<=U.length->passK bs ch (bM M) (bL J) U k=(bL (passK bs ch M J U k).1,(passK bs ch M J U k).2)
 | 0,_=>rfl
 | k+1,hk=>by rw [passK_succ (by omega),passK_succ (by omega),passK_bare hB U k (by omega),unitG_bare hB]
theorem passG_bare (hB:Bare3 bs ch un):passG bs ch un (bM M) (bL J)=(bL (passG bs ch un M J).1,(passG bs ch un M J).2):=by
 unfold passG
 rw [hB.u]
 exact passK_bare hB _ _ (Nat.le_refl _)
theorem tickG_bare (hB:Bare3 bs ch un):tickG bs ch un S.bare=bR (tickG bs ch un S):=by
 have he:expG { S.bare with ck:=S.bare.ck+1 } = ((expG { S with ck:=S.ck+1 }).1.bare,(expG { S with ck:=S.ck+1 }).2):=expG_bare (S:={ S with ck:=S.ck+1 })
 unfold tickG
 rw [he]
 show (if 1073741824<=S.ck then _ else _)=_
 split
 ·rfl
 ·obtain ⟨T,hT⟩:∃ T,T=expG { S with ck:=S.ck+1 }:=⟨_,rfl⟩
  rw [<- hT]
  show ((⟨T.1.ck,T.1.nx,bM T.1.M,T.1.Q,(passG bs ch un (bM T.1.M) (bL T.1.J)).1⟩:Sg),(0:Int),T.2 ++ (passG bs ch un (bM T.1.M) (bL T.1.J)).2)=_
  rw [passG_bare hB]
  rfl
theorem stepG_bare (hB:Bare3 bs ch un)(v:Ov):stepG bs ch un S.bare v=bR (stepG bs ch un S v):=by
 unfold stepG
 split
 ·unfold opG
  split
  ·exact addN_bare _ _ _ _ _
  split
  ·exact dropN_bare _
  split
  ·exact addQ_bare _
  split
  ·exact dropQ_bare _
  split
  ·exact subJ_bare _ _ _ _ _ _ _ _ _ _
  split
  ·exact canJ_bare _
  split
  ·exact finJ_bare _
  split
  ·exact beatN_bare _
  ·exact tickG_bare hB
 ·rfl
theorem stepG_alike (hB:Bare3 bs ch un){T:Sg}(h:S.bare=T.bare)(v:Ov):(stepG bs ch un S v).2=(stepG bs ch un T v).2/\(stepG bs ch un S v).1.bare=(stepG bs ch un T v).1.bare:=by
 have h1:=stepG_bare (S:=S) hB v
 have h2:=stepG_bare (S:=T) hB v
 rw [h,h2] at h1
 unfold bR at h1
 injection h1 with e1 e2
 exact ⟨e2.symm,e1.symm⟩
end
end
end Go.Proofs.YtccccbofcnmdiaaGreat
