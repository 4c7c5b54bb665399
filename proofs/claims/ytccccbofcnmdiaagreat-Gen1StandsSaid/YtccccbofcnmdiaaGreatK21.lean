/- Lemmas that the law stands on. No condition. -/
import Derived.Test.YtccccbofcnmdiaaGreatK20
namespace Go.Proofs.YtccccbofcnmdiaaGreat
set_option linter.unusedSimpArgs false
set_option linter.unusedVariables false
set_option maxRecDepth 100000
set_option maxHeartbeats 51200000
section
open Go.RowKit Go.Sort
theorem RdK.past {w w':World}{k g:Nat}{A:Option Addr}{l:List (List Value)}(h:RdK w k A l)(hg:w.grownBy w' (some g))(ha:∀ a,A=some a->g<a.block):RdK w' k A l:=fun i x hx=>by
 obtain ⟨g',o,hA,hr⟩:=h i x hx
 have hlt:g<g':=ha _ hA
 refine ⟨g',o,hA,fun j v hv=>?_⟩
 rw [World.cell?_of_block (hg.block g' (World.block_lt_of_cell? w _ (hr j v hv)) (by simp;omega))]
 exact hr j v hv
def chJ (L:List Ml)(t:Kt)(tl:List Lb)(l:List Jb)(o:Option Ch):List Jb:=match o with | none=>[] | some x=>((plansOf L t tl l x.1).getD []).map (jat l)
theorem chG_is (L:List Ml)(t:Kt)(tl:List Lb)(l:List Jb)(o:Option Ch):chG L t tl l o=(chJ L t tl l o).map Jb.nm:=by
 cases o with
 | none=>rfl
 | some x=>exact namesAt_is l _
section
variable {L:List Ml}{t:Kt}{tl:List Lb}{l:List Jb}{k:Nat}{o:Option Ch}{G:List Nat}
theorem chJ_len (h:cho (plansOf L t tl l) l L k=o)(hl:l.length<=1000000)(hk:k<=L.length):(chJ L t tl l o).length<=1000000:=by
 cases o with
 | none=>simp [chJ]
 | some x=>
  obtain ⟨⟨G,h1,h2,h3,h4⟩,_⟩:=cho_is h
  have hxl:x.1<L.length:=by omega
  show (((plansOf L t tl l x.1).getD []).map (jat l)).length<=1000000
  rw [h1,List.length_map]
  rw [plansOf_at hxl] at h1
  have:=places_len h1
  show G.length<=_
  omega
theorem betr_cf (h:cho (plansOf L t tl l) l L k=o)(ho:o.isSome=true)(G:List Nat):decide (cfC (nmAt L k) (G.map (jat l)) (chN L o) (chJ L t tl l o)<0)=betr L k G.length (lastP l G) o:=by
 cases o with
 | none=>cases ho
 | some x=>
  obtain ⟨b,m,tp⟩:=x
  obtain ⟨⟨G2,h1,h2,h3,h4⟩,_⟩:=cho_is h
  simp only at h1 h2 h3
  have e1:chJ L t tl l (some (b,m,tp))=G2.map (jat l):=by unfold chJ;simp only [h1,Option.getD_some]
  rw [e1,betr_some]
  show decide (cfC (nmAt L k) (G.map (jat l)) (nmAt L b) (G2.map (jat l))<0)=_
  unfold cfC or3 or2
  rw [<- lastP_is,<- lastP_is,<- h3,List.length_map,List.length_map,<- h2]
  by_cases c1:G.length=m
  ·rw [if_pos (cI_zero.2 (by omega)),decide_eq_false (show ¬ G.length<m by omega),decide_eq_true c1]
   simp only [Bool.false_or,Bool.true_and]
   by_cases c2:lastP l G=tp
   ·rw [if_pos (cI_zero.2 c2),decide_eq_false (show ¬ lastP l G<tp by omega),decide_eq_true c2]
    simp only [Bool.false_or,Bool.true_and]
    rw [Bool.eq_iff_iff,decide_eq_true_eq,compareBytes_neg,sL_iff]
   ·rw [if_neg (fun e=>c2 (cI_zero.1 e)),decide_eq_false c2]
    simp only [Bool.false_and,Bool.or_false]
    rw [decide_eq_decide];exact cI_neg
  ·rw [if_neg (fun e=>c1 (by have:=cI_zero.1 e;omega)),decide_eq_false c1]
   simp only [Bool.false_and,Bool.or_false]
   rw [decide_eq_decide,cI_neg];omega
theorem chJ_new (h:plansOf L t tl l k=some G) (m:Nat) (tp:Int):chJ L t tl l (some (k,m,tp))=G.map (jat l):=by unfold chJ;simp only [h,Option.getD_some]
end


theorem vchoose_any (A0:Option Addr) (N c0:Nat)(L:List Ml)(A:Option Addr) (n cap:Nat)(l:List Jb)(t:Kt)(tl:List Lb)(w:World)(hN:Hid (N=L.length))(hNl:N<=1000000)(hL:Hid (RdM w A0 (mcs L)))(hLo:Hid (MsOk w L))(hn:Hid (n=l.length))(hl:n<=1000000)(hA:Hid (RdJ w A l))(hT:Hid (KtOk w t tl))(r:Option Ch)(hr:Hid (cho (plansOf L t tl l) l L N=r)) :
  Calls Tryz.prog 191 #[.slice A0 N c0,.slice A n cap,.agg t.arr] w fun e w'=>RetC w.heap.size w' e (chN L r) (chG L t tl l r) r.isSome/\Below w.heap.size w w':=by
 rw [chG_is]
 go_enter Tryz.func191,Tryz.ntmps191
 have HT0:=Lib.hid (show Bk (w.alloc (.cells t.arr 47)) w.heap.size 47 t.arr from Bk.fresh _ _ _)
 have hB0:Below w.heap.size w (w.alloc (.cells t.arr 47)):=(Below.refl _ _).alloc (Nat.le_refl _) _
 go_wp2_with ((with_reducible refine store_bk rfl 234 (.tmp 9) (.tmp 16) rfl (w.heap.size+1) 0 #[.string ⟨#[]⟩,.slice none 0 0] rfl rfl 234 _ #[.string ⟨#[]⟩,.slice none 0 0] (Bk.freshAt _ _ _ (by simp)) (by kernel_rfl) (by simp) (by kernel_rfl) rfl ?_);intro w1 hB1 hg1 hs1;have HT1:=Lib.hid ((HT0.out.later ((Below.refl _ _).alloc (Nat.le_refl _) _)).stays hg1 (by simp));have HC1:=Lib.hid hB1;have hb1:Below w.heap.size w w1:=grown_below (hB0.alloc (by simp) _) hg1 (by omega);clear hB1 hg1 hs1 HT0 hB0)
 go_loopw [10,19] (fun v10 i wr=>∃ k:Nat,k<=N/\i = .int .i64 k/\(∃ (oc:Option Ch)(B:Option Addr) (c:Nat),v10 = .bool oc.isSome/\Hid (cho (plansOf L t tl l) l L k=oc)/\Hid (Bk wr (w.heap.size+1) 234 #[.string (chN L oc),.slice B (chJ L t tl l oc).length c])/\Hid (RdJ wr B (chJ L t tl l oc))/\Hid (∀ a,B=some a->w.heap.size+2<=a.block))/\Hid (Bk wr w.heap.size 47 t.arr)/\Below w.heap.size w wr) (fun _ i wr=>N - (intOf i).toNat)
 case atStart=>exact ⟨0,Nat.zero_le _,rfl,⟨none,none,0,rfl,(show _=_ from rfl),HC1,RdJ.nil _ _,(show ∀ a,none=some a->_ from fun a h=>by cases h)⟩,HT1,hb1⟩
 case round=>
  clear HT1 hb1 HC1
  obtain ⟨k,hk,rfl,⟨oc,B,cB,rfl,HC,HBe,HRd,HFr⟩,HTb,hb⟩:=hrel
  have lt0:w.heap.size+1<wr.heap.size:=HBe.out.here
  have hJl:(chJ L t tl l oc).length<=1000000:=chJ_len HC.out (by have:=hn.out;omega) (by have:=hN.out;omega)
  by_cases hlt:k<N
  ·have hlk:k<L.length:=by have:=hN.out;omega
   obtain ⟨g,o,hAg,hg,hm⟩:=(hL.out.later hb).at (i:=k) (by simpa [mcs] using hlk)
   subst hAg
   rw [mcs_at hlk] at hm
   obtain ⟨x,hx⟩:∃ x,x=L[k]:=⟨_,rfl⟩
   rw [<- hx] at hm
   have HMt:=Lib.hid hm;clear hm
   have hxo:McOk w x.1 x.2:=by rw [hx];exact hLo.out.at hlk
   obtain ⟨r',hr'⟩:∃ r,places x.1 x.2 t tl l=r:=⟨_,rfl⟩
   have hpl:plansOf L t tl l k=r':=by rw [plansOf_at hlk,<- hx];exact hr'
   have hnk:nmAt L k=x.1.nm:=by rw [nmAt_at hlk,<- hx]
   have ks:=fun (W:World)(h1:Hid (RdJ W A l))(h2:Hid (McOk W x.1 x.2))(h3:Hid (KtOk W t tl))=>vtop_any x.1 x.2 A n cap l t tl W hn hl h1 h2 h3 (r'.map fun G=>G.map (jat l)) (show planJ x.1 x.2 t tl l=_ by unfold planJ;rw [hr'])
   have hGn:(r'.getD []).length<=n:=by
    cases r' with
    | none=>simp
    | some G=>have:=places_len hr';have:=hn.out;simp;omega
   have KS:=Lib.hid ks;have HPl:=Lib.hid hpl;have HNk:=Lib.hid hnk;have HXo:=Lib.hid hxo
   clear ks hpl hnk hxo hx hr'
   go_wp2_with (first | (with_reducible refine load_rg rfl 60 _ rfl g (o+k * 7) rfl x.1.arr _ HMt.out.rg Tryz.underlying60 rfl (by kernel_rfl) ?_) | ((with_reducible refine store_bk rfl 60 (.tmp 12) (.tmp 22) rfl wr.heap.size 0 x.1.arr rfl rfl 60 _ x.1.arr (Bk.fresh _ _ _) (by kernel_rfl) (by simp) (by kernel_rfl) rfl ?_);intro w4 hB4 hg4 hs4;have bl4:Below wr.heap.size wr w4:=grown_below ((Below.refl _ _).alloc (Nat.le_refl _) _) hg4 (Nat.le_refl _);have HX4:=Lib.hid hB4;clear hB4 hg4 hs4;have HT4:=Lib.hid (HTb.out.later bl4);have HE4:=Lib.hid (HBe.out.later bl4);have HR4:=Lib.hid (HRd.out.later bl4);have hb4:Below w.heap.size w w4:=hb.trans (bl4.mono hb.size)) | (with_reducible refine load_bk rfl 60 _ rfl wr.heap.size 0 rfl 60 x.1.arr x.1.arr _ HX4.out (Part.whole _) Tryz.underlying60 rfl (by kernel_rfl) ?_) | (with_reducible refine load_bk rfl 47 _ rfl w.heap.size 0 rfl 47 t.arr t.arr _ HT4.out (Part.whole _) Tryz.underlying47 rfl (by kernel_rfl) ?_))
   refine (KS.out _ (hA.out.later hb4) (HXo.out.later hb4) (hT.out.later hb4)).mono ?_;rintro v w5 ⟨⟨B5,c5,rfl,h1,h2,h3,h4⟩,hb5⟩
   have HX5:=Lib.hid (HX4.out.later hb5);have HT5:=Lib.hid (HT4.out.later hb5);have HE5:=Lib.hid (HE4.out.later hb5);have HR5:=Lib.hid (HR4.out.later hb5)
   have hB5:Below w.heap.size w w5:=hb4.trans (hb5.mono hb4.size)
   have lt5:w.heap.size+1<w5.heap.size:=HE5.out.here
   have lx5:wr.heap.size<w5.heap.size:=HX5.out.here
   have h4':∀ a,B5=some a->w.heap.size+2<=a.block:=fun a e=>by have:=h4 a e;have:=HE4.out.here;omega
   have HF5:=Lib.hid h4'
   clear h4 h4' HX4 HT4 HE4 HR4 hb4 hb5 bl4 HTb HBe HRd HMt hg
   cases r' with
   | none=>
    have HC2:Hid (cho (plansOf L t tl l) l L (k+1)=oc):=by show _=_;rw [cho_no HPl.out];exact HC.out
    clear h1 h2 h3 HPl KS
    go_wp2_with fail
    go_round
    case rel=>exact ⟨k+1,by omega,by go_num,⟨oc,B,cB,rfl,HC2,HE5,HR5,HFr⟩,HT5,hB5⟩
    case measure=>simp [intOf];omega
   | some G=>
    have hG1:((Option.map (fun G=>G.map (jat l)) (some G)).getD [])=G.map (jat l):=rfl
    have hG2:(Option.map (fun G=>List.map (jat l) G) (some G)).isSome=true:=rfl
    rw [hG1] at h1 h2 ⊢
    rw [hG2]
    have hGn':G.length<=n:=hGn
    obtain ⟨E,hE⟩:∃ E,E=G.map (jat l):=⟨_,rfl⟩
    have hEl:E.length<=1000000:=by rw [hE,List.length_map];omega
    rw [<- hE] at h1 h2 ⊢
    obtain ⟨q,hq⟩:∃ q,q=E.length:=⟨_,rfl⟩
    rw [<- hq] at h2 hEl ⊢
    have H1:=Lib.hid h1;have HQ:=Lib.hid hq;have HEE:=Lib.hid hE
    clear h1 hq hE hG1 hG2 hGn hGn' KS
    have c0:w5.cell? ⟨wr.heap.size,0,none⟩=some (.string x.1.nm):=HX5.out.cellAt 0
    have HNew:Hid (∀ (m:Nat) (tp:Int),chJ L t tl l (some (k,m,tp))=E):=fun m tp=>by rw [HEE.out];exact chJ_new HPl.out m tp
    have hNm:∀ (m:Nat) (tp:Int),chN L (some (k,m,tp))=x.1.nm:=fun m tp=>HNk.out
    have HNm:=Lib.hid hNm;clear hNm
    cases oc with
    | none=>
     have HC2:Hid (cho (plansOf L t tl l) l L (k+1)=some (k,G.length,lastP l G)):=by show _=_;rw [cho_yes HPl.out,HC.out];rfl
     go_wp2_with (first | ((with_reducible refine store_bk rfl 234 (.tmp 15) (.tmp 36) rfl w5.heap.size 0 #[.string x.1.nm,.slice B5 q c5] rfl rfl 234 _ #[.string x.1.nm,.slice B5 q c5] (Bk.fresh _ _ _) (by kernel_rfl) (by simp) (by kernel_rfl) rfl ?_);intro w6 hB6 hg6 hs6;have bl6:Below w5.heap.size w5 w6:=grown_below ((Below.refl _ _).alloc (Nat.le_refl _) _) hg6 (Nat.le_refl _);have HY6:=Lib.hid hB6;clear hB6 hg6 hs6;have HT6:=Lib.hid (HT5.out.later bl6);have HE6:=Lib.hid (HE5.out.later bl6);have HR6:=Lib.hid (HR5.out.later bl6);have H16:=Lib.hid (H1.out.later bl6);have hb6:Below w.heap.size w w6:=hB5.trans (bl6.mono hB5.size);have lt6:w.heap.size+1<w6.heap.size:=HE6.out.here) | (with_reducible refine load_bk rfl 234 _ rfl w5.heap.size 0 rfl 234 #[.string x.1.nm,.slice B5 q c5] #[.string x.1.nm,.slice B5 q c5] _ HY6.out (Part.whole _) Tryz.underlying234 rfl (by kernel_rfl) ?_) | ((with_reducible refine store_bk rfl 234 (.tmp 9) (.tmp 45) rfl (w.heap.size+1) 0 #[.string x.1.nm,.slice B5 q c5] rfl rfl 234 _ #[.string x.1.nm,.slice B5 q c5] HE6.out (by kernel_rfl) (by simp) (by kernel_rfl) rfl ?_);intro w8 hB8 hg8 hs8;have HE8:=Lib.hid hB8;have HT8:=Lib.hid (HT6.out.stays hg8 (by simp));have H18:=Lib.hid (RdK.past H16.out hg8 (fun a e=>by have:=HF5.out a e;omega));have hb8:Below w.heap.size w w8:=hb6.grown hg8 (by omega) (fun g e=>by injection e with e;omega);clear hB8 hs8 hg8))
     go_round
     case rel=>exact ⟨k+1,by omega,by go_num,⟨some (k,G.length,lastP l G),B5,c5,rfl,HC2,(by show Bk _ _ _ _;rw [HNm.out,HNew.out,<- HQ.out];exact HE8.out),(by show RdJ _ _ _;rw [HNew.out];exact H18.out),HF5⟩,HT8,hb8⟩
     case measure=>simp [intOf];omega
    | some y=>
     have hcf:=betr_cf (k:=k) HC.out rfl G
     rw [HNk.out,<- HEE.out] at hcf
     have kc:=fun (W:World)(h1:Hid (RdJ W B5 E))(h2:Hid (RdJ W B (chJ L t tl l (some y))))=>vcompare_any x.1.nm B5 q c5 E (chN L (some y)) B (chJ L t tl l (some y)).length cB (chJ L t tl l (some y)) W HQ hEl h1 (show _=_ from rfl) hJl h2
     obtain ⟨z,hz⟩:∃ z,z=cfC x.1.nm E (chN L (some y)) (chJ L t tl l (some y)):=⟨_,rfl⟩
     rw [<- hz] at hcf kc
     obtain ⟨R,hR⟩:∃ R,betr L k G.length (lastP l G) (some y)=R:=⟨_,rfl⟩
     have hcy:=cho_yes (l:=l) (L:=L) HPl.out
     rw [HC.out,hR] at hcy
     rw [hR] at hcf
     generalize hJJ:chJ L t tl l (some y)=J at kc HE5 HR5 hJl
     generalize hNN:chN L (some y)=nn at kc HE5
     have KC:=Lib.hid kc;have HCY:=Lib.hid hcy;have HJJ:=Lib.hid hJJ;have HNN:=Lib.hid hNN
     clear kc hcy hz hR hJJ hNN
     have hso:(some y).isSome=true:=rfl
     rw [hso]
     generalize hJn:J.length=jn at KC HE5 hJl
     have HJn:=Lib.hid hJn;clear hJn hso
     go_wp2_with (first | ((with_reducible refine store_bk rfl 234 (.tmp 15) (.tmp 36) rfl w5.heap.size 0 #[.string x.1.nm,.slice B5 q c5] rfl rfl 234 _ #[.string x.1.nm,.slice B5 q c5] (Bk.fresh _ _ _) (by kernel_rfl) (by simp) (by kernel_rfl) rfl ?_);intro w6 hB6 hg6 hs6;have bl6:Below w5.heap.size w5 w6:=grown_below ((Below.refl _ _).alloc (Nat.le_refl _) _) hg6 (Nat.le_refl _);have HY6:=Lib.hid hB6;clear hB6 hg6 hs6;have HT6:=Lib.hid (HT5.out.later bl6);have HE6:=Lib.hid (HE5.out.later bl6);have HR6:=Lib.hid (HR5.out.later bl6);have H16:=Lib.hid (H1.out.later bl6);have hb6:Below w.heap.size w w6:=hB5.trans (bl6.mono hB5.size);have lt6:w.heap.size+1<w6.heap.size:=HE6.out.here) | (with_reducible refine load_bk rfl 234 _ rfl w5.heap.size 0 rfl 234 #[.string x.1.nm,.slice B5 q c5] #[.string x.1.nm,.slice B5 q c5] _ HY6.out (Part.whole _) Tryz.underlying234 rfl (by kernel_rfl) ?_) | (with_reducible refine load_bk rfl 234 _ rfl (w.heap.size+1) 0 rfl 234 #[.string nn,.slice B jn cB] #[.string nn,.slice B jn cB] _ HE6.out (Part.whole _) Tryz.underlying234 rfl (by kernel_rfl) ?_))
     refine (KC.out _ (H1.out.later bl6) HR6).mono ?_;rintro v w7 ⟨rfl,hb7⟩
     have HT7:=Lib.hid (HT6.out.later hb7);have HE7:=Lib.hid (HE6.out.later hb7);have HY7:=Lib.hid (HY6.out.later hb7);have HR7:=Lib.hid (HR6.out.later hb7);have H17:=Lib.hid (H16.out.later hb7);have hB7:Below w.heap.size w w7:=hb6.trans (hb7.mono hb6.size)
     have lt7:w.heap.size+1<w7.heap.size:=HE7.out.here
     have ly7:w5.heap.size<w7.heap.size:=HY7.out.here
     clear HT6 HE6 HY6 HR6 H16 hb6 hb7 bl6 HT5 HE5 HX5 HR5 hB5 H1 c0 lt5 lx5
     cases R with
     | true=>
      have HC2:Hid (cho (plansOf L t tl l) l L (k+1)=some (k,G.length,lastP l G)):=HCY.out
      go_wp2_with (first | (with_reducible refine load_bk rfl 234 _ rfl w5.heap.size 0 rfl 234 #[.string x.1.nm,.slice B5 q c5] #[.string x.1.nm,.slice B5 q c5] _ HY7.out (Part.whole _) Tryz.underlying234 rfl (by kernel_rfl) ?_) | ((with_reducible refine store_bk rfl 234 (.tmp 9) (.tmp 45) rfl (w.heap.size+1) 0 #[.string x.1.nm,.slice B5 q c5] rfl rfl 234 _ #[.string x.1.nm,.slice B5 q c5] HE7.out (by kernel_rfl) (by simp) (by kernel_rfl) rfl ?_);intro w8 hB8 hg8 hs8;have HE8:=Lib.hid hB8;have HT8:=Lib.hid (HT7.out.stays hg8 (by simp));have H18:=Lib.hid (RdK.past H17.out hg8 (fun a e=>by have:=HF5.out a e;omega));have hb8:Below w.heap.size w w8:=hB7.grown hg8 (by omega) (fun g e=>by injection e with e;omega);clear hB8 hs8 hg8))
      go_round
      case rel=>exact ⟨k+1,by omega,by go_num,⟨some (k,G.length,lastP l G),B5,c5,rfl,HC2,(by show Bk _ _ _ _;rw [HNm.out,HNew.out,<- HQ.out];exact HE8.out),(by show RdJ _ _ _;rw [HNew.out];exact H18.out),HF5⟩,HT8,hb8⟩
      case measure=>simp [intOf];omega
     | false=>
      have HC2:Hid (cho (plansOf L t tl l) l L (k+1)=some y):=HCY.out
      go_wp2_with fail
      go_round
      case rel=>exact ⟨k+1,by omega,by go_num,⟨some y,B,cB,rfl,HC2,(by show Bk _ _ _ _;rw [HNN.out,HJJ.out,HJn.out];exact HE7.out),(by show RdJ _ _ _;rw [HJJ.out];exact HR7.out),HFr⟩,HT7,hB7⟩
      case measure=>simp [intOf];omega
  ·have hk':k=N:=by omega
   subst hk'
   have hrr:oc=r:=by rw [<- HC.out,<- hr.out]
   subst hrr
   have kn:=fun (W:World)(h1:Hid (RdJ W B (chJ L t tl l oc)))=>vnames_any B (chJ L t tl l oc).length cB (chJ L t tl l oc) W (show _=_ from rfl) hJl h1
   generalize hJn:(chJ L t tl l oc).length=jn at kn HBe
   have KN:=Lib.hid kn;clear kn hJn
   have cn:wr.cell? ⟨w.heap.size+1,0,none⟩=some (.string (chN L oc)):=HBe.out.cellAt 0
   have cs:wr.cell? ⟨w.heap.size+1,1,none⟩=some (.slice B jn cB):=HBe.out.cellAt 1
   have CN:=Lib.hid cn;have CS:=Lib.hid cs;clear cn cs
   go_wp2_with fail
   refine wp_region_held_drew (S:=fun X=>Below wr.heap.size wr X) (by kernel_rfl) (Below.drew (Below.refl _ _)) (fun hS0=>?_)
   refine wU (i:=0) (v:=?_) rfl ?_ hS0 ?_
   rotate_left
   ·intro W _;go_simp;try with_reducible rfl
   try simp only [Act.put,tZ]
   refine wU (i:=1) (v:=?_) rfl ?_ hS0 ?_
   rotate_left
   ·intro W hSW;have hx:=(hSW.cell (by show w.heap.size+1<wr.heap.size;omega)).trans CN.out;go_simp;try with_reducible rfl
   try simp only [Act.put,tZ]
   refine wU (i:=2) (v:=?_) rfl ?_ hS0 ?_
   rotate_left
   ·intro W _;go_simp;try with_reducible rfl
   try simp only [Act.put,tZ]
   refine wU (i:=3) (v:=?_) rfl ?_ hS0 ?_
   rotate_left
   ·intro W hSW;have hx:=(hSW.cell (by show w.heap.size+1<wr.heap.size;omega)).trans CS.out;go_simp;try with_reducible rfl
   try simp only [Act.put,tZ]
   refine wU (i:=5) (v:=?_) rfl ?_ hS0 ?_
   rotate_left
   ·intro W _;go_simp;try with_reducible rfl
   try simp only [Act.put,tZ]
   refine wpAnyH_ready (rs:=[4]) (by kernel_rfl) (by simp) ?_
   refine AllReadyH.cons rfl (fun K hK=>?_) AllReadyH.nil
   go_simp
   have hBS:Below w.heap.size w _:=hb.trans (hS0.mono hb.size)
   have hzS:=hBS.size
   refine (KN.out _ (HRd.out.later hS0)).mono ?_
   rintro v v1 ⟨⟨u,rfl,hO⟩,hbl⟩
   have HO:=Lib.hid hO;clear hO
   go_simp
   refine hK.out _ _ (hS0.trans (hbl.mono hS0.size)) (fun hS1=>?_)
   clear hK K
   try simp only [Act.put,tZ]
   refine wU (i:=6) (v:=?_) rfl ?_ hS1 ?_
   rotate_left
   ·intro W _;go_simp;try with_reducible rfl
   try simp only [Act.put,tZ]
   refine wU (i:=7) (v:=?_) rfl ?_ hS1 ?_
   rotate_left
   ·intro W _;go_simp;try with_reducible rfl
   try simp only [Act.put,tZ]
   refine wU (i:=8) (v:=?_) rfl ?_ hS1 ?_
   rotate_left
   ·intro W _;go_simp;try with_reducible rfl
   try simp only [Act.put,tZ]
   refine wpAnyH_done (by kernel_rfl) ?_ _
   have hBv:Below w.heap.size w v1:=hb.trans (hS1.mono hb.size)
   go_wp2_with fail
   exact bodyPost_ret (v:=.tuple #[.string (chN L oc),u,.bool oc.isSome]) (by simp [results,Tryz.results191,go_sem]) rfl ⟨⟨_,rfl,HO.out.base hzS⟩,hBv⟩
end
section
open Go.RowKit
theorem jat_jbs {J:List Jl}{i:Nat}(h:i<J.length):jat (jbs J) i=J[i].1:=by
 rw [jat_at (by simpa [jbs] using h)];simp [jbs]
theorem srtU_len (l:List Jb):(srtU l).length<=l.length:=by
 rw [(srtU_perm l).length_eq]
 exact Nat.le_trans (List.length_filter_le _ _) (by simp)
def unF (J:List Jl):List (List Nat):=unitsU (jbs J)
theorem uniK:UniK unF where
 calls A n cap J w hn hl hA:=by
  refine (units_any A n cap (jbs J) w (Lib.hid (by rw [hn];simp [jbs])) hl (Lib.hid hA)).mono ?_
  rintro e w' ⟨⟨v,vs,rfl,h1,h2⟩,hb⟩
  refine ⟨?_,hb⟩
  obtain ⟨B,c,hv,hr,-,-,-⟩:=h1.sl
  rw [cellsW_length,h2.len] at hv
  subst hv
  refine ⟨B,c,rfl,fun i hi=>?_⟩
  obtain ⟨v2,hv2,ho2⟩:=h2.el i (unF J)[i] (List.getElem?_eq_getElem hi)
  obtain ⟨g,o,hB,hg,hc⟩:=cellW hr hv2
  obtain ⟨A2,c2,e2,hr2,-,-⟩:=ho2.rdi
  rw [show (ints (unF J)[i]).length=(unF J)[i].length by simp [ints]] at e2
  subst e2
  refine ⟨g,o,A2,c2,hB,h1.block g (by rw [hB];rfl),hg,hc,fun k hk=>?_⟩
  obtain ⟨g2,o2,hA2,hg2,hc2⟩:=RdI.nat hr2 hk
  exact ⟨g2,o2,hA2,ho2.block g2 (by rw [hA2];rfl),hg2,hc2⟩
 ne J u hu:=by
  obtain ⟨p,r,rfl,-⟩:=units_in hu
  simp
 lt J u hu i hi:=by
  obtain ⟨p,r,-,h,-⟩:=units_in hu
  have:=(h i hi).1
  simpa [jbs] using this
 few J u hu:=by
  obtain ⟨i,hi,_,hu2⟩:=units_mem hu (Nat.le_refl _)
  obtain ⟨-,h3,-⟩:=unit_head hi hu2
  have h4:=srtU_len (jbs J)
  have h5:=h3.length_le
  simp only [jbs,List.length_map] at h4 h5 ⊢
  omega
 len J:=by
  have h1:=unitsK_len (jbs J) (srtU (jbs J)) (srtU (jbs J)).length
  have h4:=srtU_len (jbs J)
  show (unitsK (jbs J) (srtU (jbs J)) (srtU (jbs J)).length).length<=_
  simp only [jbs,List.length_map] at h1 h4 ⊢
  omega
theorem insE_mem {x z:En}{E:List En}(h:z ∈ insE x E):z=x ∨ z ∈ E:=by
 unfold insE at h
 rcases List.mem_append.1 h with h | h
 ·exact .inr ((List.takeWhile_sublist _).mem h)
 ·rcases List.mem_cons.1 h with h | h
  ·exact .inl h
  ·exact .inr ((List.dropWhile_sublist _).mem h)
theorem srt_mem (t:Kt)(tl:List Lb)(l:List Jb){z:En}:∀ (L:List Ml)(E:List En),z ∈ L.foldl (fun E m=>match entry t tl l m with | some x=>insE x E | none=>E) E->z ∈ E ∨ ∃ m ∈ L,m.1.nm=z.1
 | [],E,h=>.inl h
 | m :: L,E,h=>by
  rw [List.foldl_cons] at h
  rcases srt_mem t tl l L _ h with h1 | ⟨x,hx,e⟩
  ·cases he:entry t tl l m with
   | none=>rw [he] at h1;exact .inl h1
   | some y=>
    rw [he] at h1
    rcases insE_mem h1 with h2 | h2
    ·refine .inr ⟨m,by simp,?_⟩
     rw [h2]
     unfold entry at he
     cases hs:sco m.1 m.2 t tl l with
     | none=>rw [hs] at he;cases he
     | some s=>rw [hs] at he;injection he with he;rw [<- he]
    ·exact .inl h2
  ·exact .inr ⟨x,List.mem_cons_of_mem _ hx,e⟩
def bsF (L:List Ml)(J:List Jl) (p:Nat):ByteArray × Bool:=bestP (srt (jl J p).1.tk (jl J p).2 (jbs J) L)
theorem bestK:BestK bsF where
 calls A0 N c0 L A n cap J p w hp hN hNl hL hLo hn hl hA hT:=by
  have h:=best_any A0 N c0 L A n cap (jbs J) J[p].1.tk J[p].2 w (Lib.hid hN) hNl (Lib.hid hL) (Lib.hid hLo) (Lib.hid (by rw [hn];simp [jbs])) hl (Lib.hid hA) (Lib.hid hT)
  refine h.mono ?_
  rintro e w' ⟨rfl,hb⟩
  refine ⟨?_,hb⟩
  unfold bsF
  rw [jl_at hp];rfl
 mem L J p h:=by
  unfold bsF at h ⊢
  cases hE:srt (jl J p).1.tk (jl J p).2 (jbs J) L with
  | nil=>rw [hE] at h;cases h
  | cons x E=>
   have hx:x ∈ srt (jl J p).1.tk (jl J p).2 (jbs J) L:=by rw [hE];simp
   rcases srt_mem _ _ _ L [] hx with h1 | h1
   ·cases h1
   ·exact h1
def choF (L:List Ml)(J:List Jl) (p:Nat):Option Ch:=cho (plansOf L (jl J p).1.tk (jl J p).2 (jbs J)) (jbs J) L L.length
def chF (L:List Ml)(J:List Jl) (p:Nat):ByteArray × List ByteArray × Bool:=(chN L (choF L J p),chG L (jl J p).1.tk (jl J p).2 (jbs J) (choF L J p),(choF L J p).isSome)
theorem choF_is {L:List Ml}{J:List Jl}{p:Nat}{x:Ch}(h:choF L J p=some x):∃ hx:x.1<L.length,∃ G,chN L (some x)=L[x.1].1.nm/\chG L (jl J p).1.tk (jl J p).2 (jbs J) (some x)=namesAt (jbs J) G/\(∀ i ∈ G,i<J.length)/\G.length<=J.length:=by
 obtain ⟨⟨G,h1,-,-,h4⟩,-⟩:=cho_is h
 refine ⟨h4,G,?_,?_,?_,?_⟩
 ·show nmAt L x.1=_
  unfold nmAt;simp [List.getD,h4]
 ·show namesAt _ ((plansOf _ _ _ _ x.1).getD [])=_
  rw [h1];rfl
 ·rw [plansOf_at h4] at h1
  intro i hi
  simpa [jbs] using places_lt h1 i hi
 ·rw [plansOf_at h4] at h1
  simpa [jbs] using places_len h1
theorem choK:ChoK chF where
 calls A0 N c0 L A n cap J p w hp hN hNl hL hLo hn hl hA hT:=by
  have hr:cho (plansOf L J[p].1.tk J[p].2 (jbs J)) (jbs J) L N=choF L J p:=by unfold choF;rw [jl_at hp,hN]
  have h:=vchoose_any A0 N c0 L A n cap (jbs J) J[p].1.tk J[p].2 w (Lib.hid hN) hNl (Lib.hid hL) (Lib.hid hLo) (Lib.hid (by rw [hn];simp [jbs])) hl (Lib.hid hA) (Lib.hid hT) (choF L J p) (Lib.hid hr)
  refine h.mono ?_
  rintro e w' ⟨⟨v,rfl,ho⟩,hb⟩
  refine ⟨⟨v,rfl,?_⟩,hb⟩
  unfold chF
  rw [jl_at hp]
  exact ho
 mem L J p h:=by
  cases hc:choF L J p with
  | none=>unfold chF at h;rw [hc] at h;cases h
  | some x=>
   obtain ⟨hx,G,h1,-⟩:=choF_is hc
   refine ⟨L[x.1],List.getElem_mem hx,?_⟩
   unfold chF
   rw [hc];exact h1.symm
 nms L J p h s hs:=by
  cases hc:choF L J p with
  | none=>unfold chF at h;rw [hc] at h;cases h
  | some x=>
   obtain ⟨hx,G,-,h2,h3,-⟩:=choF_is hc
   unfold chF at hs
   rw [hc] at hs
   have hs:s ∈ chG L (jl J p).1.tk (jl J p).2 (jbs J) (some x):=hs
   rw [h2] at hs
   obtain ⟨i,hi,rfl⟩:=List.mem_map.1 hs
   refine ⟨J[i]'(h3 i hi),List.getElem_mem _,?_⟩
   rw [jat_jbs (h3 i hi)]
   exact sE_iff.2 rfl
 few L J p:=by
  cases hc:choF L J p with
  | none=>unfold chF;rw [hc];exact Nat.zero_le _
  | some x=>
   obtain ⟨hx,G,-,h2,-,h4⟩:=choF_is hc
   unfold chF
   rw [hc]
   show (chG L (jl J p).1.tk (jl J p).2 (jbs J) (some x)).length<=_
   rw [h2];simpa [namesAt] using h4
end
section
open Go.RowKit
def atK (t:ByteArray)(W:List Ac):Nat->Int
 | 0=>-1
 | k+1=>if sE (W.getD k (0,⟨#[]⟩,⟨#[]⟩)).2.1 t then (k:Int) else atK t W k
abbrev atW (t:ByteArray)(W:List Ac):Int:=atK t W W.length
def actW (W:List Ac)(x:Ac):Option (List Ac):=
 if x.1=1 then (if 0<=atW x.2.1 W then none else some (W ++ [x]))
 else if atW x.2.1 W<0 then none
 else if sE (W.getD (atW x.2.1 W).toNat (0,⟨#[]⟩,⟨#[]⟩)).2.2 x.2.2 then some (W.eraseIdx (atW x.2.1 W).toNat) else none
def runW:List Ac->List Ac->Option (List Ac)
 | W,[]=>some W
 | W,x :: l=>(actW W x).bind fun W'=>runW W' l
theorem runW_append:∀ (W l m:List Ac),runW W (l ++ m)=(runW W l).bind fun W'=>runW W' m
 | W,[],m=>rfl
 | W,x :: l,m=>by
  show (actW W x).bind _=((actW W x).bind _).bind _
  cases actW W x with
  | none=>rfl
  | some W'=>exact runW_append W' l m
theorem atK_no {t:ByteArray}{W:List Ac}(h:∀ y ∈ W,sE y.2.1 t=false):∀ k,k<=W.length->atK t W k = -1
 | 0,_=>rfl
 | k+1,hk=>by
  have e:W.getD k (0,⟨#[]⟩,⟨#[]⟩)=W[k]:=by simp [List.getD,List.getElem?_eq_getElem (show k<W.length by omega)]
  unfold atK
  rw [e,h _ (List.getElem_mem _)]
  exact atK_no h k (by omega)
theorem atK_is {t:ByteArray}{W:List Ac}(hn:(W.map fun y=>y.2.1).Nodup){p:Nat}(hp:p<W.length)(ht:sE W[p].2.1 t=true):∀ k,k<=W.length->p<k->atK t W k=(p:Int)
 | 0,_,h=>by omega
 | k+1,hk,h=>by
  have e:W.getD k (0,⟨#[]⟩,⟨#[]⟩)=W[k]:=by simp [List.getD,List.getElem?_eq_getElem (show k<W.length by omega)]
  unfold atK
  rw [e]
  by_cases hc:sE W[k].2.1 t=true
  ·rw [if_pos hc]
   have h1:(W.map fun y=>y.2.1)[k]'(by simp;omega)=(W.map fun y=>y.2.1)[p]'(by simpa using hp):=by
    rw [List.getElem_map,List.getElem_map,sE_iff.1 hc,sE_iff.1 ht]
   rcases Nat.lt_or_ge p k with hlt | hge
   ·exact absurd h1.symm (List.pairwise_iff_getElem.1 hn p k (by simpa using hp) (by simp;omega) hlt)
   ·have:k=p:=by omega
    rw [this]
  ·rw [if_neg hc]
   have hkp:p ≠ k:=fun hh=>by subst hh;exact hc ht
   exact atK_is hn hp ht k (by omega) (by omega)
def bn1 (x:Jl):List (ByteArray × ByteArray):=if wB x.1.nd then [] else [(x.1.nm,x.1.nd)]
def bnd (J:List Jl):List (ByteArray × ByteArray):=J.flatMap bn1
def NdJ (J:List Jl):Prop:=(J.map fun x=>x.1.nm).Nodup
theorem bnd_sub:∀ J:List Jl,((bnd J).map Prod.fst).Sublist (J.map fun x=>x.1.nm)
 | []=>List.Sublist.slnil
 | x :: J=>by
  have ih:=bnd_sub J
  show ((bn1 x ++ bnd J).map Prod.fst).Sublist _
  unfold bn1
  cases wB x.1.nd with
  | true=>exact ih.cons _
  | false=>exact ih.cons_cons _
theorem bnd_append (J K:List Jl):bnd (J ++ K)=bnd J ++ bnd K:=by unfold bnd;rw [List.flatMap_append]
theorem bnd_split {J:List Jl}{p:Nat}(hp:p<J.length):(bnd J).Perm (bn1 J[p] ++ bnd (J.eraseIdx p)):=by
 have e:J=J.take p ++ J[p] :: J.drop (p+1):=by rw [<- List.drop_eq_getElem_cons hp,List.take_append_drop]
 have e2:J.eraseIdx p=J.take p ++ J.drop (p+1):=List.eraseIdx_eq_take_drop_succ J p
 rw [e2,bnd_append]
 have e3:bnd J=bnd (J.take p) ++ (bn1 J[p] ++ bnd (J.drop (p+1))):=by
  conv=>lhs;rw [e]
  rw [bnd_append];rfl
 rw [e3,<- List.append_assoc,<- List.append_assoc]
 exact List.Perm.append_right _ List.perm_append_comm
theorem bnd_set {J:List Jl}{p:Nat}(hp:p<J.length)(y:Jl):(bnd (J.set p y)).Perm (bn1 y ++ bnd (J.eraseIdx p)):=by
 have h:=bnd_split (J:=J.set p y) (p:=p) (by rw [List.length_set];exact hp)
 rw [List.getElem_set_self] at h
 have e:(J.set p y).eraseIdx p=J.eraseIdx p:=by
  rw [List.eraseIdx_eq_take_drop_succ,List.eraseIdx_eq_take_drop_succ,List.take_set_of_le (Nat.le_refl _),List.drop_set_of_lt (by omega)]
 rwa [e] at h
def Tells (J:List Jl)(W:List Ac):Prop:=(W.map Prod.snd).Perm (bnd J)
theorem Tells.nodup {J:List Jl}{W:List Ac}(h:Tells J W)(hn:NdJ J):(W.map fun y=>y.2.1).Nodup:=by
 have e:(W.map fun y:Ac=>y.2.1)=(W.map Prod.snd).map Prod.fst:=by rw [List.map_map];rfl
 rw [e,(h.map Prod.fst).nodup_iff]
 exact hn.sublist (bnd_sub J)
def Goes (J:List Jl)(l:List Ac) (J':List Jl):Prop:=∀ W,Tells J W -> ∃ W',runW W l=some W' /\ Tells J' W'
theorem Goes.none (J:List Jl):Goes J [] J:=fun W h=>⟨W,rfl,h⟩
theorem Goes.trans {J K L:List Jl}{l m:List Ac}(h:Goes J l K)(g:Goes K m L):Goes J (l ++ m) L:=fun W hW=>by
 obtain ⟨W1,e1,h1⟩:=h W hW
 obtain ⟨W2,e2,h2⟩:=g W1 h1
 exact ⟨W2,by rw [runW_append,e1];exact e2,h2⟩
theorem goes_bind {J J':List Jl}{t n:ByteArray}(hn:NdJ J')(h:(bnd J').Perm ((t,n) :: bnd J)):Goes J [(1,t,n)] J':=fun W hW=>by
 have hno:∀ y ∈ W,sE y.2.1 t=false:=fun y hy=>by
  cases hc:sE y.2.1 t with
  | false=>rfl
  | true=>
   have h1:=(h.map Prod.fst).nodup_iff.1 (hn.sublist (bnd_sub J'))
   rw [List.map_cons,List.nodup_cons] at h1
   refine absurd ?_ h1.1
   rw [<- sE_iff.1 hc]
   exact List.mem_map_of_mem (f:=Prod.fst) (a:=y.2) (hW.mem_iff.1 (List.mem_map_of_mem (f:=Prod.snd) hy))
 refine ⟨W ++ [(1,t,n)],?_,?_⟩
 ·show (actW W (1,t,n)).bind _=_
  unfold actW
  rw [if_pos rfl,atW,atK_no hno _ (Nat.le_refl _),if_neg (by omega)]
  rfl
 ·show ((W ++ [(1,t,n)]).map Prod.snd).Perm _
  rw [List.map_append]
  exact (List.perm_append_comm.trans (hW.cons (t,n))).trans h.symm
theorem erase_perm {α:Type}{l:List α}{p:Nat}(hp:p<l.length):l.Perm (l[p] :: l.eraseIdx p):=by
 have e:l=l.take p ++ l[p] :: l.drop (p+1):=by rw [<- List.drop_eq_getElem_cons hp,List.take_append_drop]
 conv=>lhs;rw [e]
 rw [List.eraseIdx_eq_take_drop_succ]
 exact List.perm_middle
theorem goes_free {J J':List Jl}{k:Int}{t n:ByteArray}(hk:k ≠ 1)(hn:NdJ J)(h:(bnd J).Perm ((t,n) :: bnd J')):Goes J [(k,t,n)] J':=fun W hW=>by
 have hm:(t,n) ∈ W.map Prod.snd:=hW.mem_iff.2 (h.mem_iff.2 List.mem_cons_self)
 obtain ⟨p,hp,e⟩:=List.getElem_of_mem hm
 rw [List.length_map] at hp
 rw [List.getElem_map] at e
 have ea:atW t W=(p:Int):=atK_is (hW.nodup hn) hp (by rw [e];exact sE_refl _) _ (Nat.le_refl _) hp
 have eg:W.getD p (0,⟨#[]⟩,⟨#[]⟩)=W[p]:=by simp [List.getD,List.getElem?_eq_getElem hp]
 refine ⟨W.eraseIdx p,?_,?_⟩
 ·show (actW W (k,t,n)).bind _=_
  unfold actW
  rw [if_neg hk,ea,if_neg (by omega),Int.toNat_natCast,eg,e,if_pos (sE_refl _)]
  rfl
 ·have h1:(W.map Prod.snd).Perm ((t,n) :: (W.eraseIdx p).map Prod.snd):=by
   have:=(erase_perm hp).map Prod.snd
   rwa [List.map_cons,e] at this
  exact ((h1.symm.trans hW).trans h).cons_inv
section
variable {J:List Jl}{p:Nat}
theorem wait_bind {s:ByteArray}(hp:p<J.length)(hw:wB J[p].1.nd=true)(hs:s.size ≠ 0)(hn:NdJ J):Goes J [(1,J[p].1.nm,s)] (J.set p (goX s J[p]))/\NdJ (J.set p (goX s J[p])):=by
 have hn':NdJ (J.set p (goX s J[p])):=by
  unfold NdJ;rw [List.map_set]
  have e:(J.map fun x=>x.1.nm).set p (goX s J[p]).1.nm=J.map fun x=>x.1.nm:=by
   have:(goX s J[p]).1.nm=(J.map fun x=>x.1.nm)[p]'(by simpa using hp):=by rw [List.getElem_map];rfl
   rw [this,List.set_getElem_self]
  rw [e];exact hn
 refine ⟨goes_bind hn' ?_,hn'⟩
 have h1:=bnd_split hp
 have h2:=bnd_set hp (goX s J[p])
 have e1:bn1 J[p]=[]:=by unfold bn1;rw [hw];rfl
 have e2:bn1 (goX s J[p])=[(J[p].1.nm,s)]:=by
  unfold bn1
  have:wB (goX s J[p]).1.nd=false:=decide_eq_false hs
  rw [this];rfl
 rw [e1] at h1;rw [e2] at h2
 exact h2.trans (h1.symm.cons _)
theorem bound_rest {k:Int}(hk:k ≠ 1)(hp:p<J.length)(hw:wB J[p].1.nd=false)(hn:NdJ J):Goes J [(k,J[p].1.nm,J[p].1.nd)] (J.set p (restX J[p]))/\NdJ (J.set p (restX J[p])):=by
 have hn':NdJ (J.set p (restX J[p])):=by
  unfold NdJ;rw [List.map_set]
  have e:(J.map fun x=>x.1.nm).set p (restX J[p]).1.nm=J.map fun x=>x.1.nm:=by
   have:(restX J[p]).1.nm=(J.map fun x=>x.1.nm)[p]'(by simpa using hp):=by rw [List.getElem_map];rfl
   rw [this,List.set_getElem_self]
  rw [e];exact hn
 refine ⟨goes_free hk hn ?_,hn'⟩
 have h1:=bnd_split hp
 have h2:=bnd_set hp (restX J[p])
 have e1:bn1 J[p]=[(J[p].1.nm,J[p].1.nd)]:=by unfold bn1;rw [hw];rfl
 have e2:bn1 (restX J[p])=[]:=by
  unfold bn1
  have:wB (restX J[p]).1.nd=true:=rfl
  rw [this];rfl
 rw [e1] at h1;rw [e2] at h2
 exact h1.trans (h2.symm.cons _)
theorem erase_names (hn:NdJ J):NdJ (J.eraseIdx p):=by
 unfold NdJ
 exact hn.sublist ((List.eraseIdx_sublist J p).map _)
end
end
section
open Go.RowKit
def NeM (M:List Ml):Prop:=∀ x ∈ M,x.1.nm.size ≠ 0
def Leads (J:List Jl)(l:List Ac) (J':List Jl):Prop:=NdJ J->Goes J l J' /\ NdJ J'
theorem Leads.none (J:List Jl):Leads J [] J:=fun h=>⟨Goes.none J,h⟩
theorem Leads.trans {J K L:List Jl}{l m:List Ac}(h:Leads J l K)(g:Leads K m L):Leads J (l ++ m) L:=fun hn=>by
 obtain ⟨h1,h2⟩:=h hn
 obtain ⟨g1,g2⟩:=g h2
 exact ⟨h1.trans g1,g2⟩
section
variable {s:ByteArray}{J:List Jl}{p:Nat}
end
theorem ml_at' {M:List Ml}{i:Nat}(h:i<M.length):ml M i=M[i]:=by simp [ml,List.getD,h]
theorem late_lt {ck:Int}{M:List Ml}{i:Nat}(h:late ck (ml M i)=true):i<M.length:=by
 rcases Nat.lt_or_ge i M.length with h1 | h1
 ·exact h1
 ·have:ml M i=noM:=by unfold ml;rw [List.getD_eq_getElem?_getD,List.getElem?_eq_none h1];rfl
  rw [this] at h
  simp [late,noM] at h
theorem bindJ_other {s:ByteArray}{p q:Nat}{J:List Jl}(h:p ≠ q):jl (bindJ s p J) q=jl J q:=by
 unfold bindJ
 simp [jl,List.getD,List.getElem?_set_ne h]
theorem tryK_leads {bs:Bst}(hB:BestK bs){M:List Ml}(hM:NeM M){J:List Jl}{u:List Nat}(hu:u.Nodup)(hw:∀ q ∈ u,q<J.length/\wB (jl J q).1.nd=true) :
  ∀ k,k<=u.length -> ∀ r,tryK bs M J u k=some r->Leads J r.2 r.1/\r.1.length=J.length /\ ∀ q,q ∉ u.take k->jl r.1 q=jl J q
 | 0,_,r,h=>by injection h with h;subst h;exact ⟨Leads.none _,rfl,fun _ _=>rfl⟩
 | k+1,hk,r',h=>by
  have hk':k<u.length:=by omega
  have eu:u.getD k 0=u[k]:=by simp [List.getD,List.getElem?_eq_getElem hk']
  unfold tryK at h
  cases hr:tryK bs M J u k with
  | none=>rw [hr] at h;cases h
  | some r=>
   obtain ⟨h1,h2,h3⟩:=tryK_leads hB hM hu hw k (by omega) r hr
   rw [hr] at h
   change (if (bs M r.1 (u.getD k 0)).2=true then some (bindJ (bs M r.1 (u.getD k 0)).1 (u.getD k 0) r.1,r.2 ++ [(1,(jl r.1 (u.getD k 0)).1.nm,(bs M r.1 (u.getD k 0)).1)]) else none)=some r' at h
   rw [eu] at h
   by_cases hb:(bs M r.1 u[k]).2=true
   ·rw [if_pos hb] at h
    injection h with h
    subst h
    obtain ⟨q1,q2⟩:=hw u[k] (List.getElem_mem hk')
    have hq:u[k]<r.1.length:=by omega
    have hnt:u[k] ∉ u.take k:=fun hm=>by
     obtain ⟨i,hi,e⟩:=List.getElem_of_mem hm
     rw [List.length_take] at hi
     rw [List.getElem_take] at e
     exact List.pairwise_iff_getElem.1 hu i k (by omega) hk' (by omega) e
    have e3:=h3 _ hnt
    obtain ⟨x,hx,hxn⟩:=hB.mem _ _ _ hb
    have hs:(bs M r.1 u[k]).1.size ≠ 0:=by rw [<- hxn];exact hM x hx
    refine ⟨h1.trans fun hn=>?_,?_,fun q hqn=>?_⟩
    ·have:=wait_bind (J:=r.1) (p:=u[k]) hq (by rw [<- jl_at hq,e3];exact q2) hs hn
     rw [<- jl_at hq] at this
     exact this
    ·show (r.1.set _ _).length=_
     rw [List.length_set];exact h2
    ·rw [List.take_succ_eq_append_getElem hk',List.mem_append,not_or] at hqn
     show jl (bindJ _ _ _) q=_
     rw [bindJ_other (fun e=>hqn.2 (by rw [e];exact List.mem_singleton_self _))]
     exact h3 q hqn.1
   ·rw [if_neg hb] at h;cases h
end
section
open Go.RowKit
theorem plJ_is {J:List Jl}{p:Nat}(hn:NdJ J)(hp:p<J.length){s:ByteArray}(hs:J[p].1.nm=s):plJ s J=(p:Int):=by
 rcases fnd_cases s (jbs J) 0 with h | ⟨q,hq,h1,h2⟩
 ·exact absurd (by rw [hs];exact sE_refl s) (fnd_none h J[p] (List.getElem_mem hp))
 ·have hq':q<J.length:=by simpa [jbs] using hq
  have e:(jbs J)[q]=J[q].1:=by simp [jbs]
  rw [e] at h2
  have hqp:q=p:=by
   rcases Nat.lt_trichotomy q p with h | h | h
   ·exact absurd (by rw [List.getElem_map,List.getElem_map,sE_iff.1 h2,hs]) (List.pairwise_iff_getElem.1 hn q p (by simpa using hq') (by simpa using hp) h)
   ·exact h
   ·exact absurd (by rw [List.getElem_map,List.getElem_map,sE_iff.1 h2,hs]) (List.pairwise_iff_getElem.1 hn p q (by simpa using hp) (by simpa using hq') h)
  show fnd s 0 (jbs J)=_
  rw [h1,hqp,Nat.zero_add]
theorem nms_set {J:List Jl}{p:Nat}{y:Jl}(hy:∀ h:p<J.length,y.1.nm=J[p].1.nm):(J.set p y).map (fun x=>x.1.nm)=J.map fun x=>x.1.nm:=by
 rw [List.map_set]
 rcases Nat.lt_or_ge p J.length with h | h
 ·have:y.1.nm=(J.map fun x=>x.1.nm)[p]'(by simpa using h):=by rw [List.getElem_map];exact hy h
  rw [this,List.set_getElem_self]
 ·rw [List.set_eq_of_length_le (by simpa using h)]
theorem evK_leads {J:List Jl}{G:List Nat}(hn:NdJ J)(hG:G.Nodup)(hb:∀ i ∈ G,i<J.length/\wB (jl J i).1.nd=false) :
  ∀ k,k<=G.length->Goes J (evK J (namesAt (jbs J) G) k).2 (evK J (namesAt (jbs J) G) k).1/\(evK J (namesAt (jbs J) G) k).1.map (fun x=>x.1.nm)=J.map (fun x=>x.1.nm) /\ ∀ q,q ∉ G.take k->jl (evK J (namesAt (jbs J) G) k).1 q=jl J q
 | 0,_=>⟨Goes.none J,rfl,fun _ _=>rfl⟩
 | k+1,hk=>by
  have hk':k<G.length:=by omega
  obtain ⟨h1,h2,h3⟩:=evK_leads hn hG hb k (by omega)
  have hkn:k<(namesAt (jbs J) G).length:=by rw [namesAt_len];exact hk'
  rw [evK_succ hkn]
  obtain ⟨T,hT⟩:∃ T,T=evK J (namesAt (jbs J) G) k:=⟨_,rfl⟩
  rw [<- hT] at h1 h2 h3 ⊢
  obtain ⟨b1,b2⟩:=hb G[k] (List.getElem_mem hk')
  have hl:T.1.length=J.length:=by simpa using congrArg List.length h2
  have hnt:G[k] ∉ G.take k:=fun hm=>by
   obtain ⟨i,hi,e⟩:=List.getElem_of_mem hm
   rw [List.length_take] at hi
   rw [List.getElem_take] at e
   exact List.pairwise_iff_getElem.1 hG i k (by omega) hk' (by omega) e
  have e3:=h3 _ hnt
  have hp:G[k]<T.1.length:=by omega
  have hnT:NdJ T.1:=by unfold NdJ;rw [h2];exact hn
  have es:(namesAt (jbs J) G)[k]=T.1[G[k]].1.nm:=by
   have e4:T.1[G[k]]=J[G[k]]:=by rw [<- jl_at hp,e3,jl_at b1]
   rw [e4]
   have:(namesAt (jbs J) G)[k]=(jat (jbs J) G[k]).nm:=by simp [namesAt]
   rw [this,jat_jbs b1]
  have epl:plJ (namesAt (jbs J) G)[k] T.1=(G[k]:Int):=plJ_is hnT hp es.symm
  unfold outS
  rw [epl,Int.toNat_natCast]
  have hw:wB T.1[G[k]].1.nd=false:=by rw [<- jl_at hp,e3];exact b2
  have hr:=bound_rest (k:=2) (by omega) hp hw hnT
  rw [<- jl_at hp] at hr
  refine ⟨h1.trans hr.1,?_,fun q hq=>?_⟩
  ·show (T.1.set _ _).map _=_
   rw [nms_set (fun h=>by rw [jl_at h];rfl)]
   exact h2
  ·rw [List.take_succ_eq_append_getElem hk',List.mem_append,not_or] at hq
   have hne:G[k] ≠ q:=fun e=>hq.2 (by rw [e];exact List.mem_singleton_self _)
   show jl (T.1.set _ _) q=_
   rw [<- h3 q hq.1]
   simp [jl,List.getD,List.getElem?_set_ne hne]
def FitC (ch:Chs15):Prop:=∀ L J p,NeM L->(ch L J p).2.2=true -> ∃ G,(ch L J p).2.1=namesAt (jbs J) G/\G.Nodup /\ ∀ i ∈ G,i<J.length/\wB (jl J i).1.nd=false
def FitU (un:Uns):Prop:=∀ J,(un J).flatten.Nodup /\ ∀ u ∈ un J,∀ q ∈ u,wB (jl J q).1.nd=true
theorem preG_leads {ch:Chs15}(hC:ChoK ch)(hF:FitC ch){M:List Ml}(hM:NeM M){J:List Jl}{p:Nat}(hn:NdJ J)(hp:p<J.length)(hw:wB (jl J p).1.nd=true) :
  Goes J (preG ch M J p).2 (preG ch M J p).1/\(preG ch M J p).1.map (fun x=>x.1.nm)=J.map (fun x=>x.1.nm) /\ ∀ q,q ≠ p->wB (jl J q).1.nd=true->jl (preG ch M J p).1 q=jl J q:=by
 unfold preG
 by_cases hc:(ch M J p).2.2=true
 ·rw [if_pos hc]
  obtain ⟨G,e,hG,hb⟩:=hF M J p hM hc
  obtain ⟨x,hx,hxn⟩:=hC.mem _ _ _ hc
  have hs:(ch M J p).1.size ≠ 0:=by rw [<- hxn];exact hM x hx
  rw [e,namesAt_len]
  have out:∀ q,wB (jl J q).1.nd=true->q ∉ G.take G.length:=fun q hq hm=>by
   rw [List.take_length] at hm
   have:=(hb q hm).2
   rw [hq] at this;cases this
  obtain ⟨h1,h2,h3⟩:=evK_leads (J:=J) (G:=G) hn hG hb G.length (Nat.le_refl _)
  obtain ⟨T,hT⟩:∃ T,T=evK J (namesAt (jbs J) G) G.length:=⟨_,rfl⟩
  rw [<- hT] at h1 h2 h3 ⊢
  have hlen:T.1.length=J.length:=by simpa using congrArg List.length h2
  have hpT:p<T.1.length:=by omega
  have e3:=h3 p (out p hw)
  have hnT:NdJ T.1:=by unfold NdJ;rw [h2];exact hn
  have hwb:=wait_bind (J:=T.1) (p:=p) hpT (by rw [<- jl_at hpT,e3];exact hw) hs hnT
  rw [<- jl_at hpT] at hwb
  refine ⟨h1.trans hwb.1,?_,fun q hq hqw=>?_⟩
  ·show (T.1.set _ _).map _=_
   rw [nms_set (fun h=>by rw [jl_at h];rfl)]
   exact h2
  ·show jl (bindJ _ _ _) q=_
   rw [bindJ_other (fun e=>hq e.symm)]
   exact h3 q (out q hqw)
 ·rw [if_neg hc]
  exact ⟨Goes.none J,rfl,fun _ _ _=>rfl⟩
theorem tryK_nms {bs:Bst}{M:List Ml}{J:List Jl}{u:List Nat}:∀ k r,tryK bs M J u k=some r->r.1.map (fun x=>x.1.nm)=J.map fun x=>x.1.nm
 | 0,r,h=>by injection h with h;subst h;rfl
 | k+1,r',h=>by
  unfold tryK at h
  cases hr:tryK bs M J u k with
  | none=>rw [hr] at h;cases h
  | some r=>
   have ih:=tryK_nms k r hr
   rw [hr] at h
   change (if (bs M r.1 (u.getD k 0)).2=true then some (bindJ (bs M r.1 (u.getD k 0)).1 (u.getD k 0) r.1,r.2 ++ [(1,(jl r.1 (u.getD k 0)).1.nm,(bs M r.1 (u.getD k 0)).1)]) else none)=some r' at h
   split at h
   ·injection h with h
    subst h
    show (r.1.set _ _).map _=_
    rw [nms_set (fun h=>by rw [jl_at h];rfl)]
    exact ih
   ·cases h
theorem unitG_some {bs:Bst}{ch:Chs15}{M:List Ml}{X r:List Jl × List Ac}{u:List Nat}(h:tryK bs M X.1 u u.length=some r):unitG bs ch M X u=(r.1,X.2 ++ r.2):=by
 unfold unitG;rw [h]
theorem unitG_none {bs:Bst}{ch:Chs15}{M:List Ml}{X:List Jl × List Ac}{u:List Nat}(h:tryK bs M X.1 u u.length=none) :
  unitG bs ch M X u=if (jl X.1 (u.getD 0 0)).1.ga.size=0 then ((preG ch M X.1 (u.getD 0 0)).1,X.2 ++ (preG ch M X.1 (u.getD 0 0)).2) else X:=by
 unfold unitG;rw [h]
theorem unitG_leads {bs:Bst}{ch:Chs15}(hB:BestK bs)(hC:ChoK ch)(hF:FitC ch){M:List Ml}(hM:NeM M){S0:List Jl}{X:List Jl × List Ac}{u:List Nat}(h0:0<u.length)(hu:u.Nodup)
  (hw:∀ q ∈ u,q<X.1.length/\wB (jl X.1 q).1.nd=true)(hn:NdJ X.1)(h:Goes S0 X.2 X.1) :
  Goes S0 (unitG bs ch M X u).2 (unitG bs ch M X u).1/\(unitG bs ch M X u).1.map (fun x=>x.1.nm)=X.1.map (fun x=>x.1.nm) /\ ∀ q,q ∉ u->wB (jl X.1 q).1.nd=true->jl (unitG bs ch M X u).1 q=jl X.1 q:=by
 cases hr:tryK bs M X.1 u u.length with
 | some r=>
  rw [unitG_some hr]
  obtain ⟨h1,h2,h3⟩:=tryK_leads hB hM hu hw u.length (Nat.le_refl _) r hr
  rw [List.take_length] at h3
  exact ⟨h.trans (h1 hn).1,show r.1.map (fun x=>x.1.nm)=_ from tryK_nms _ r hr,fun q hq _=>h3 q hq⟩
 | none=>
  rw [unitG_none hr]
  have eu:u.getD 0 0=u[0]:=by simp [List.getD,List.getElem?_eq_getElem h0]
  rw [eu]
  obtain ⟨w1,w2⟩:=hw u[0] (List.getElem_mem h0)
  split
  ·obtain ⟨h1,h2,h3⟩:=preG_leads hC hF hM hn w1 w2
   exact ⟨h.trans h1,h2,fun q hq hqw=>h3 q (fun e=>hq (by rw [e];exact List.getElem_mem h0)) hqw⟩
  ·exact ⟨h,rfl,fun _ _ _=>rfl⟩
theorem passK_leads {bs:Bst}{ch:Chs15}(hB:BestK bs)(hC:ChoK ch)(hF:FitC ch){M:List Ml}(hM:NeM M){J:List Jl}{U:List (List Nat)}(hn:NdJ J)(hU:U.flatten.Nodup)(h0:∀ u ∈ U,0<u.length)
  (hw:∀ u ∈ U,∀ q ∈ u,q<J.length/\wB (jl J q).1.nd=true):∀ k,k<=U.length ->
  Goes J (passK bs ch M J U k).2 (passK bs ch M J U k).1/\(passK bs ch M J U k).1.map (fun x=>x.1.nm)=J.map (fun x=>x.1.nm) /\ ∀ q,q ∉ (U.take k).flatten->wB (jl J q).1.nd=true->jl (passK bs ch M J U k).1 q=jl J q
 | 0,_=>⟨Goes.none J,rfl,fun _ _ _=>rfl⟩
 | k+1,hk=>by
  have hk':k<U.length:=by omega
  obtain ⟨h1,h2,h3⟩:=passK_leads hB hC hF hM hn hU h0 hw k (by omega)
  have es:passK bs ch M J U (k+1)=unitG bs ch M (passK bs ch M J U k) U[k]:=by
   unfold passK;rw [List.take_succ_eq_append_getElem hk',List.foldl_append];rfl
  rw [es]
  obtain ⟨X,hX⟩:∃ X,X=passK bs ch M J U k:=⟨_,rfl⟩
  rw [<- hX] at h1 h2 h3 ⊢
  have hl:X.1.length=J.length:=by simpa using congrArg List.length h2
  have hm:=List.getElem_mem hk'
  have hpw:=(List.pairwise_flatten.1 hU)
  have hnot:∀ q ∈ U[k],q ∉ (U.take k).flatten:=fun q hq hf=>by
   obtain ⟨v,hv,hqv⟩:=List.mem_flatten.1 hf
   obtain ⟨i,hi,e⟩:=List.getElem_of_mem hv
   rw [List.length_take] at hi
   rw [List.getElem_take] at e
   subst e
   exact List.pairwise_iff_getElem.1 hpw.2 i k (by omega) hk' (by omega) q hqv q hq rfl
  have hwX:∀ q ∈ U[k],q<X.1.length/\wB (jl X.1 q).1.nd=true:=fun q hq=>by
   obtain ⟨a,b⟩:=hw U[k] hm q hq
   exact ⟨by omega,by rw [h3 q (hnot q hq) b];exact b⟩
  obtain ⟨g1,g2,g3⟩:=unitG_leads hB hC hF hM (S0:=J) (h0 _ hm) (hpw.1 _ hm) hwX (by unfold NdJ;rw [h2];exact hn) h1
  refine ⟨g1,g2.trans h2,fun q hq hqw=>?_⟩
  rw [List.take_succ_eq_append_getElem hk',List.flatten_append,List.mem_append,not_or] at hq
  have e:=h3 q hq.1 hqw
  rw [g3 q (fun h=>hq.2 (by simpa using h)) (by rw [e];exact hqw)]
  exact e
end
section
open Go.RowKit
theorem ascK_pw {K:List ByteArray}:AscK K ↔ K.Pairwise fun a b=>sL a b=true:=by
 unfold AscK
 rw [List.pairwise_iff_getElem]
theorem ascK_erase {K:List ByteArray}(h:AscK K) (p:Nat):AscK (K.eraseIdx p):=ascK_pw.2 ((ascK_pw.1 h).sublist (List.eraseIdx_sublist _ _))
theorem ascK_ins {s:ByteArray}{K:List ByteArray}(h:AscK K)(hn:hasK s K=false):AscK (K.take (lbK s K) ++ s :: K.drop (lbK s K)):=by
 have hlt:∀ x ∈ K.take (lbK s K),sL x s=true:=fun x hx=>by
  obtain ⟨t,ht,rfl⟩:=List.getElem_of_mem hx
  rw [List.getElem_take]
  rw [List.length_take] at ht
  exact lbK_lt (by omega) (by omega)
 have hge:∀ y ∈ K.drop (lbK s K),sL s y=true:=fun y hy=>by
  obtain ⟨t,ht,rfl⟩:=List.getElem_of_mem hy
  rw [List.length_drop] at ht
  rw [List.getElem_drop]
  have hm:lbK s K<K.length:=by omega
  have h0:sL s K[lbK s K]=true:=by
   rcases sL_total (lbK_at hm) with h1 | h1
   ·exact h1
   ·exfalso
    have:hasK s K=true:=List.any_eq_true.2 ⟨_,List.getElem_mem hm,by rw [h1];exact sE_refl s⟩
    rw [this] at hn;cases hn
  by_cases e:t=0
  ·subst e;exact h0
  ·exact sL_trans h0 (h _ _ hm (by omega) (by omega))
 have hp:=ascK_pw.1 h
 refine ascK_pw.2 (List.pairwise_append.2 ⟨hp.sublist (List.take_sublist _ _),List.pairwise_cons.2 ⟨hge,hp.sublist (List.drop_sublist _ _)⟩,fun x hx y hy=>?_⟩)
 rcases List.mem_cons.1 hy with rfl | hy
 ·exact hlt x hx
 ·exact sL_trans (hlt x hx) (hge y hy)
theorem keyM_ins (q:Ml)(M:List Ml):keyM (insM q M)=(keyM M).take (lbK q.1.nm (keyM M)) ++ q.1.nm :: (keyM M).drop (lbK q.1.nm (keyM M)):=by
 unfold insM;simp [keyM,List.map_take,List.map_drop]
theorem keyQ_ins (q:Qx)(Q:List Qx):keyQ (insQ q Q)=(keyQ Q).take (lbK q.1 (keyQ Q)) ++ q.1 :: (keyQ Q).drop (lbK q.1 (keyQ Q)):=by
 unfold insQ;simp [keyQ,List.map_take,List.map_drop]
theorem keyM_erase (M:List Ml) (p:Nat):keyM (M.eraseIdx p)=(keyM M).eraseIdx p:=by
 rw [List.eraseIdx_eq_take_drop_succ,List.eraseIdx_eq_take_drop_succ];simp [keyM,List.map_take,List.map_drop]
theorem keyQ_erase (Q:List Qx) (p:Nat):keyQ (Q.eraseIdx p)=(keyQ Q).eraseIdx p:=by
 rw [List.eraseIdx_eq_take_drop_succ,List.eraseIdx_eq_take_drop_succ];simp [keyQ,List.map_take,List.map_drop]
structure In2 (m:Int)(S:Sg):Prop where
 M:S.M.length<=16
 Q:S.Q.length<=8
 J:S.J.length<=48
 lM:∀ x ∈ S.M,x.2.length<=1000
 lJ:∀ x ∈ S.J,x.2.length<=1000
 nx:1<=S.nx/\S.nx<=1073741824
 ck:0<=S.ck/\S.ck<=1073741824
 aM:AscK (keyM S.M)
 aQ:AscK (keyQ S.Q)
 bo:BoK m S.J
theorem In2.inv {m:Int}{S:Sg}(h:In2 m S)(hm:m<=1152921504606846976):Inv S:=
 ⟨⟨by have:=h.M;omega,by have:=h.Q;omega,by have:=h.J;omega,h.lM,h.lJ,by have:=h.nx;omega,by have:=h.ck;omega⟩,⟨h.aM,h.aQ⟩,h.bo.up hm⟩
theorem In2.up {m m':Int}{S:Sg}(h:In2 m S)(hm:m<=m'):In2 m' S:=⟨h.M,h.Q,h.J,h.lM,h.lJ,h.nx,h.ck,h.aM,h.aQ,h.bo.up hm⟩
section
variable {m:Int}{S:Sg}
theorem In2.addN (h:In2 m S)(nm:ByteArray) (a b c:Int)(l:List Lb)(hl:l.length<=1000):In2 m (addN S nm a b c l).1:=by
 unfold Go.Proofs.YtccccbofcnmdiaaGreat.addN
 cases hf:hasK nm (keyM S.M) with
 | true=>exact h
 | false=>
  rw [if_neg (by decide)]
  split
  ·exact h
  ·next hs=>
   refine ⟨?_,h.Q,h.J,fun x hx=>?_,h.lJ,h.nx,h.ck,?_,h.aQ,h.bo⟩
   ·show (insM _ _).length<=16
    have h1:=lbK_le nm (keyM S.M)
    rw [List.length_map] at h1
    unfold insM
    rw [List.length_append,List.length_cons,List.length_take,List.length_drop]
    show min (lbK nm (keyM S.M)) _+(_ - lbK nm (keyM S.M)+1)<=16
    omega
   ·have hx':x ∈ insM (newM S.ck nm a b c none 0 0 l) S.M:=hx
    unfold insM at hx'
    rcases List.mem_append.1 hx' with hx | hx
    ·exact h.lM x (List.mem_of_mem_take hx)
    ·rcases List.mem_cons.1 hx with rfl | hx
     ·exact hl
     ·exact h.lM x (List.mem_of_mem_drop hx)
   ·show AscK (keyM (insM _ _))
    rw [keyM_ins]
    exact ascK_ins h.aM hf
theorem In2.addQ (h:In2 m S)(q:Qx):In2 m (addQ S q).1:=by
 unfold Go.Proofs.YtccccbofcnmdiaaGreat.addQ
 cases hf:hasK q.1 (S.Q.map fun q=>q.1) with
 | true=>exact h
 | false=>
  rw [if_neg (by decide)]
  split
  ·exact h
  ·next hs=>
   refine ⟨h.M,?_,h.J,h.lM,h.lJ,h.nx,h.ck,h.aM,?_,h.bo⟩
   ·show (insQ _ _).length<=8
    have h1:=lbK_le q.1 (keyQ S.Q)
    rw [List.length_map] at h1
    unfold insQ
    rw [List.length_append,List.length_cons,List.length_take,List.length_drop]
    show min (lbK q.1 (keyQ S.Q)) _+(_ - lbK q.1 (keyQ S.Q)+1)<=8
    omega
   ·show AscK (keyQ (insQ _ _))
    rw [keyQ_ins]
    exact ascK_ins h.aQ hf
theorem BoK.sub {J K:List Jl}(h:BoK m K)(hs:∀ x ∈ J,x ∈ K):BoK m J:=fun x hx=>h x (hs x hx)
theorem BoK.same {J K:List Jl}(h:BoK m K)(hc:J.map coreB=K.map coreB):BoK m J:=fun x hx=>by
 have hm:coreB x ∈ K.map coreB:=by rw [<- hc];exact List.mem_map_of_mem hx
 obtain ⟨y,hy,e⟩:=List.mem_map.1 hm
 have e2:y.1.bo=x.1.bo:=by have h:=congrArg (fun x:Jl=>x.1.bo) e;exact h
 rw [<- e2];exact h y hy
theorem lab_same {J K:List Jl}(hc:J.map core=K.map core)(h:∀ x ∈ K,x.2.length<=1000):∀ x ∈ J,x.2.length<=1000:=fun x hx=>by
 obtain ⟨y,hy,e⟩:=core_mem hc hx
 rw [<- (core_tk e).2];exact h y hy
theorem In2.withJ {m':Int}{J:List Jl}(h:In2 m S)(hc:J.map core=S.J.map core)(hb:BoK m' J):In2 m' { S with J:=J }:=
 ⟨h.M,h.Q,by have:=congrArg List.length hc;rw [List.length_map,List.length_map] at this;show J.length<=48;rw [this];exact h.J,h.lM,lab_same hc h.lJ,h.nx,h.ck,h.aM,h.aQ,hb⟩
theorem In2.cutJ (h:In2 m S) (p:Nat):In2 m { S with J:=S.J.eraseIdx p }:=
 ⟨h.M,h.Q,Nat.le_trans (List.length_eraseIdx_le _ _) h.J,h.lM,fun x hx=>h.lJ x (List.mem_of_mem_eraseIdx hx),h.nx,h.ck,h.aM,h.aQ,h.bo.sub fun x hx=>List.mem_of_mem_eraseIdx hx⟩
theorem In2.dropN (h:In2 m S)(s:ByteArray):In2 m (dropN' S s).1:=by
 unfold dropN'
 split
 ·have h1:In2 m { S with J:=relJ s S.J }:=h.withJ (coreB_core (relJ_core s S.J)) (h.bo.same (relJ_core s S.J))
  exact ⟨Nat.le_trans (List.length_eraseIdx_le _ _) h.M,h.Q,h1.J,fun x hx=>h.lM x (List.mem_of_mem_eraseIdx hx),h1.lJ,h.nx,h.ck,by show AscK (keyM (S.M.eraseIdx _));rw [keyM_erase];exact ascK_erase h.aM _,h.aQ,h1.bo⟩
 ·exact h
theorem In2.dropQ (h:In2 m S)(s:ByteArray):In2 m (dropQ S s).1:=by
 unfold Go.Proofs.YtccccbofcnmdiaaGreat.dropQ
 split
 ·split
  ·exact h
  ·exact ⟨h.M,Nat.le_trans (List.length_eraseIdx_le _ _) h.Q,h.J,h.lM,h.lJ,h.nx,h.ck,h.aM,by show AscK (keyQ (S.Q.eraseIdx _));rw [keyQ_erase];exact ascK_erase h.aQ _,h.bo⟩
 ·exact h
theorem In2.canJ (h:In2 m S)(s:ByteArray):In2 m (canJ S s).1:=by
 unfold Go.Proofs.YtccccbofcnmdiaaGreat.canJ
 split
 ·exact h
 ·exact h.cutJ _
theorem In2.finJ (h:In2 m S)(s:ByteArray):In2 m (finJ S s).1:=by
 unfold Go.Proofs.YtccccbofcnmdiaaGreat.finJ
 split
 ·exact h
 ·split
  ·exact h
  ·exact h.cutJ _
theorem map_modify_same {α β:Type}{f:α->β}{g:α->α}{l:List α}{p:Nat}(h:∀ x,f (g x)=f x):(l.modify p g).map f=l.map f:=by
 by_cases hp:p<l.length
 ·rw [modify_set hp];exact map_set_same fun _=>h _
 ·rw [List.modify_eq_self (by omega)]
theorem In2.beatN (h:In2 m S)(s:ByteArray):In2 m (beatN S s).1:=by
 unfold Go.Proofs.YtccccbofcnmdiaaGreat.beatN
 split
 ·refine ⟨by show (S.M.modify _ _).length<=16;rw [List.length_modify];exact h.M,h.Q,h.J,fun x hx=>?_,h.lJ,h.nx,h.ck,?_,h.aQ,h.bo⟩
  ·have h1:(S.M.modify (lbK s (keyM S.M)) (upX S.ck)).map Prod.snd=S.M.map Prod.snd:=map_modify_same fun _=>rfl
   have hm:x.2 ∈ S.M.map Prod.snd:=by rw [<- h1];exact List.mem_map_of_mem hx
   obtain ⟨y,hy,e⟩:=List.mem_map.1 hm
   rw [<- e];exact h.lM y hy
  ·show AscK (keyM (S.M.modify _ _))
   rw [show keyM (S.M.modify (lbK s (keyM S.M)) (upX S.ck))=keyM S.M from map_modify_same fun _=>rfl]
   exact h.aM
 ·exact h
theorem In2.subJ (h:In2 m S)(hm:0<=m)(nm qu:ByteArray) (pr a b c:Int)(ap ga:ByteArray) (sz:Int)(l:List Lb)(hl:l.length<=1000):In2 m (subJ S nm qu pr a b c ap ga sz l).1:=by
 unfold Go.Proofs.YtccccbofcnmdiaaGreat.subJ
 split
 ·exact h
 split
 ·exact h
 split
 ·exact h
 split
 ·exact h
 split
 ·exact h
 ·next h5 h4 h3 h2 h1=>
  have hmem:∀ x ∈ S.J ++ [newJ S.nx nm qu pr a b c none 0 0 ap ga sz l],x ∈ S.J ∨ x=newJ S.nx nm qu pr a b c none 0 0 ap ga sz l:=fun x hx=>(List.mem_append.1 hx).imp id List.mem_singleton.1
  refine ⟨h.M,h.Q,?_,h.lM,fun x hx=>?_,?_,h.ck,h.aM,h.aQ,fun x hx=>?_⟩
  ·show (S.J ++ [_]).length<=48;rw [List.length_append,List.length_singleton];omega
  ·rcases hmem x hx with hx | rfl
   ·exact h.lJ x hx
   ·exact hl
  ·show 1<=S.nx+1/\S.nx+1<=1073741824;have:=h.nx;omega
  ·rcases hmem x hx with hx | rfl
   ·exact h.bo x hx
   ·exact ⟨by show (_:Int)<=0;omega,hm⟩
theorem expK_key (S:Sg):∀ k,keyM (expK S k).1.M=keyM S.M
 | 0=>rfl
 | k+1=>by
  rw [expK_succ]
  have ih:=expK_key S k
  unfold expS
  split
  ·exact (map_set_same fun hp=>by rw [ml_at hp];rfl).trans ih
  ·exact ih
theorem passK_bo {bs:Bst}{ch:Chs15}{M:List Ml}{J:List Jl}{U:List (List Nat)}(hm:0<=m)(hU:∀ u ∈ U,u.length<=1000)(hb:BoK m J):∀ k,k<=U.length->(passK bs ch M J U k).1.map core=J.map core/\BoK (m+1001 * (k:Int)) (passK bs ch M J U k).1
 | 0,_=>⟨rfl,hb.up (by omega)⟩
 | k+1,hk=>by
  obtain ⟨h1,h2⟩:=passK_bo (bs:=bs) (ch:=ch) (M:=M) hm hU hb k (by omega)
  have hu:=hU _ (List.getElem_mem (show k<U.length by omega))
  rw [passK_succ (by omega)]
  exact ⟨unitG_core.trans h1,(unitG_bok (by omega) hu h2).up (by omega)⟩
theorem In2.expG (h:In2 m S):In2 m (expG S).1:=by
 obtain ⟨h1,h2,h3,h4,h5⟩:=expK_same S S.M.length
 obtain ⟨l1,l2,_⟩:=expK_len (S:=S) S.M.length
 refine ⟨by unfold Go.Proofs.YtccccbofcnmdiaaGreat.expG;rw [l1];exact h.M,by unfold Go.Proofs.YtccccbofcnmdiaaGreat.expG;rw [h3];exact h.Q,by unfold Go.Proofs.YtccccbofcnmdiaaGreat.expG;rw [l2];exact h.J,fun x hx=>?_,fun x hx=>?_,by unfold Go.Proofs.YtccccbofcnmdiaaGreat.expG;rw [h5];exact h.nx,by unfold Go.Proofs.YtccccbofcnmdiaaGreat.expG;rw [h4];exact h.ck,by unfold Go.Proofs.YtccccbofcnmdiaaGreat.expG;rw [expK_key];exact h.aM,by unfold Go.Proofs.YtccccbofcnmdiaaGreat.expG;rw [h3];exact h.aQ,by unfold Go.Proofs.YtccccbofcnmdiaaGreat.expG;exact h.bo.same h1⟩
 ·have hm:x.2 ∈ S.M.map Prod.snd:=by rw [<- h2];exact List.mem_map_of_mem hx
  obtain ⟨y,hy,e⟩:=List.mem_map.1 hm
  rw [<- e];exact h.lM y hy
 ·exact lab_same (coreB_core h1) h.lJ x hx
theorem In2.tickG {bs:Bst}{ch:Chs15}{un:Uns}(hU:UniK un)(h:In2 m S)(hm:0<=m):In2 (m+1001000) (tickG bs ch un S).1:=by
 unfold Go.Proofs.YtccccbofcnmdiaaGreat.tickG
 split
 ·exact h.up (by omega)
 ·next hov=>
  have h1:In2 m { S with ck:=S.ck+1 }:=⟨h.M,h.Q,h.J,h.lM,h.lJ,h.nx,(show 0<=S.ck+1/\S.ck+1<=1073741824 by have:=h.ck;omega),h.aM,h.aQ,h.bo⟩
  have h2:=h1.expG
  obtain ⟨T,hT⟩:∃ T,T=Go.Proofs.YtccccbofcnmdiaaGreat.expG { S with ck:=S.ck+1 }:=⟨_,rfl⟩
  rw [<- hT] at h2 ⊢
  have hb:=passK_bo (bs:=bs) (ch:=ch) (M:=T.1.M) hm (fun u hu=>Nat.le_trans (hU.few T.1.J u hu) (Nat.le_trans h2.J (by decide))) h2.bo (un T.1.J).length (Nat.le_refl _)
  have hl:=Nat.le_trans (hU.len T.1.J) h2.J
  exact h2.withJ hb.1 (hb.2.up (by omega))
theorem In2.step {bs:Bst}{ch:Chs15}{un:Uns}(hU:UniK un)(h:In2 m S)(hm:0<=m)(v:Ov)(hl1:v.l1.length<=1000)(hl3:v.l3.length<=1000):In2 (m+1001000) (stepG bs ch un S v).1:=by
 have hu:m<=m+1001000:=by omega
 unfold stepG
 split
 ·unfold opG
  split
  ·exact (h.addN _ _ _ _ _ hl1).up hu
  split
  ·exact (h.dropN _).up hu
  split
  ·exact (h.addQ _).up hu
  split
  ·exact (h.dropQ _).up hu
  split
  ·exact (h.subJ hm _ _ _ _ _ _ _ _ _ _ hl3).up hu
  split
  ·exact (h.canJ _).up hu
  split
  ·exact (h.finJ _).up hu
  split
  ·exact (h.beatN _).up hu
  ·exact h.tickG hU hm
 ·exact h.up hu
end
theorem in2_new:In2 0 Sg.new:=⟨by decide,by decide,by decide,fun x hx=>(by cases hx),fun x hx=>(by cases hx),by decide,by decide,fun i j hi=>(by cases hi),fun i j hi=>(by cases hi),fun x hx=>(by cases hx)⟩
end
end Go.Proofs.YtccccbofcnmdiaaGreat
