/- Lemmas that the law stands on. No condition. -/
import Derived.Test.YtccccbofcnmdiaaGreatM35
namespace Go.Proofs.YtccccbofcnmdiaaGreat
set_option linter.unusedSimpArgs false
set_option linter.unusedVariables false
set_option maxRecDepth 100000
set_option maxHeartbeats 51200000
section
open Go.RowKit Go.Sort
theorem enter14:∀ args w,(callFunc 202 args).run Tryz.prog w = .ok (.enter 202 args) w:=enters_of Tryz.func202 (by kernel_rfl) rfl
abbrev waitK (l:List Jb) (k:Nat):List Nat:=(List.range k).filter (waitC l)
theorem waitK_succ (l:List Jb) (k:Nat):waitK l (k+1)=waitK l k ++ if waitC l k then [k] else []:=by
 unfold waitK
 rw [List.range_succ,List.filter_append]
 cases h:waitC l k
 ·rw [List.filter_cons_of_neg (by rw [h];exact Bool.false_ne_true)];simp
 ·rw [List.filter_cons_of_pos h];simp
theorem waitK_len (l:List Jb) (k:Nat):(waitK l k).length<=k:=Nat.le_trans (List.length_filter_le _ _) (by rw [List.length_range];exact Nat.le_refl _)
abbrev at14 (l:List Jb) (i:Nat):Nat:=min i (l.length - 1)
def val14 (l:List Jb) (i:Nat):Int:=(at14 l i:Int)
def cf14 (l:List Jb) (i k:Nat):Int:=cfo (jat l (at14 l i)) (jat l (at14 l k))
theorem lt14 (l:List Jb) (i k:Nat):ltOf (cf14 l) i k=ahU l (at14 l i) (at14 l k):=by
 unfold ltOf cf14;exact cfo_try _ _
theorem swo14 (l:List Jb):SWO (ltOf (cf14 l)) where
 irrefl x:=by rw [lt14];exact tryB_irrefl _
 trans x y z h1 h2:=by rw [lt14] at *;exact tryB_trans h1 h2
 ntrans x y z h1 h2:=by rw [lt14] at *;exact tryB_ntrans h1 h2
theorem vals14 (l:List Jb):(waitK l l.length).map (val14 l)=ints (waitK l l.length):=by
 unfold ints
 refine List.map_congr_left fun i hi=>?_
 have:=List.mem_range.1 (List.mem_filter.1 hi).1
 show ((min i (l.length - 1):Nat):Int)=_
 rw [Nat.min_eq_left (by omega)]
theorem sorted14 {l:List Jb} {W:List Nat} (h1:W.Perm (List.range (waitK l l.length).length)) (h2:W.Pairwise (Fore fun i y=>ltOf (cf14 l) ((waitK l l.length).getD i default) ((waitK l l.length).getD y default))):(W.map fun i=>(waitK l l.length).getD i default)=srtU l:=by
 have hW:∀ i ∈ W,i<(waitK l l.length).length:=fun i hi=>List.mem_range.1 (h1.subset hi)
 have hasc:(waitK l l.length).Pairwise (· < ·):=List.pairwise_lt_range.sublist List.filter_sublist
 have e:∀ i (h:i<(waitK l l.length).length),(waitK l l.length).getD i default=(waitK l l.length)[i]:=by
  intro i hi;simp [List.getD,List.getElem?_eq_getElem hi]
 have hl:∀ i (h:i<(waitK l l.length).length),at14 l ((waitK l l.length).getD i default)=(waitK l l.length).getD i default:=by
  intro i hi
  rw [e i hi]
  have:=List.mem_range.1 (List.mem_filter.1 (List.getElem_mem hi)).1
  show min _ _=_
  rw [Nat.min_eq_left (by omega)]
 refine srtU_one ?_ ?_
 ·rw [List.pairwise_map]
  refine List.Pairwise.imp_of_mem (fun {x y} hx hy h=>?_) h2
  unfold Fore at h ⊢
  simp only at h ⊢
  rw [lt14,lt14,hl x (hW x hx),hl y (hW y hy)] at h
  refine h.imp id fun ⟨k1,k2⟩=>⟨k1,?_⟩
  rw [e x (hW x hx),e y (hW y hy)]
  exact List.pairwise_iff_getElem.1 hasc x y (hW x hx) (hW y hy) k2
 ·refine (h1.map _).trans ?_
  rw [show (List.range (waitK l l.length).length).map (fun i=>(waitK l l.length).getD i default)=waitK l l.length from ?_]
  apply List.ext_getElem (by simp)
  intro i k1 k2
  simp [List.getD,List.getElem?_eq_getElem k2]
theorem infoI14:(Tryz.prog.info? 3).map (fun i=>(i.zero,i.size,i.bytes))=some (some (.int .i64 0),1,8):=by kernel_rfl


theorem waiting14_any (A:Option Addr) (n cap:Nat) (l:List Jb) (w:World) (hn:Hid (n=l.length)) (hl:n<=1000000) (hA:Hid (RdJ w A l)) :
  Calls Tryz.prog 187 #[.slice A n cap] w fun e w'=>RetI14 w.heap.size w' e (ints (srtU l))/\Below w.heap.size w w':=by
 go_enter Tryz.func187,Tryz.ntmps187
 have hB0:Below w.heap.size w (w.alloc (.cells #[.slice A n cap] 29)):=(Below.refl _ _).alloc (Nat.le_refl _) _
 have HX0:=Lib.hid (show Bk (w.alloc (.cells #[.slice A n cap] 29)) w.heap.size 29 #[.slice A n cap] from Bk.fresh w _ _)
 go_wp2_with fail
 go_loopw [3,8] (fun vo i wr=>∃ k:Nat,k<=n/\i = .int .i64 k/\Hid (OwnK wr (w.heap.size+1) 3 1 vo (cellsI (ints (waitK l k))))/\Hid (n=0->vo = .slice none 0 0)/\Hid (Bk wr w.heap.size 29 #[.slice A n cap])/\Below w.heap.size w wr) (fun _ i wr=>n - (intOf i).toNat)
 case atStart=>exact ⟨0,Nat.zero_le _,rfl,(show OwnK _ _ _ _ _ (cellsI (ints (waitK l 0))) from OwnK.nil _ _ _ _),(show _->_ from fun _=>rfl),HX0,hB0⟩
 case round=>
  clear HX0 hB0
  obtain ⟨k,hk,rfl,HO,HV,HX,hb⟩:=hrel
  have lt0:w.heap.size<wr.heap.size:=HX.out.here
  by_cases hlt:k<n
  ·have hlk:k<l.length:=by have:=hn.out;omega
   obtain ⟨E,hE⟩:∃ E,E=waitK l k:=⟨_,rfl⟩
   have hst:=waitK_succ l k
   have h7:=HO.out
   rw [<- hE] at h7 hst
   have hEl:E.length<=k:=by rw [hE];exact waitK_len l k
   obtain ⟨g,o,hAg,hg,hj⟩:=(hA.out.later hb).at hlk
   subst hAg
   obtain ⟨j,hjk⟩:∃ j,j=l[k]:=⟨_,rfl⟩
   rw [<- hjk] at hj
   have hwc:waitC l k=decide (j.nd.size=0):=by unfold waitC;rw [jat_at hlk,<- hjk]
   rw [hwc] at hst
   obtain ⟨R,hR⟩:∃ R,decide (j.nd.size=0)=R:=⟨_,rfl⟩
   have k1:=fun (W:World)=>waits14_any j W
   rw [hR] at k1 hst
   have K1:=Lib.hid k1;have HJ:=Lib.hid hj;have HO7:=Lib.hid h7;have HST:=Lib.hid hst
   clear k1 hj h7 hst HO HV hjk hwc hR hE
   go_wp2_with (first | (with_reducible refine load_rg rfl 66 _ rfl g (o+k * 13) rfl j.arr _ HJ.out.rg Tryz.underlying66 rfl (by kernel_rfl) ?_) | ((with_reducible refine store_bk rfl 66 (.tmp 5) (.tmp 12) rfl wr.heap.size 0 j.arr rfl rfl 66 _ j.arr (Bk.fresh _ _ _) (by kernel_rfl) (by simp) (by kernel_rfl) rfl ?_);intro w1 hB1 hg1 hs1;have bl1:Below wr.heap.size wr w1:=grown_below ((Below.refl _ _).alloc (Nat.le_refl _) _) hg1 (Nat.le_refl _);have HX1:=Lib.hid hB1;clear hB1 hg1 hs1) | (with_reducible refine load_bk rfl 66 _ rfl wr.heap.size 0 rfl 66 j.arr j.arr _ HX1.out (Part.whole _) Tryz.underlying66 rfl (by kernel_rfl) ?_))
   refine (K1.out _).mono ?_;rintro e w2 ⟨rfl,hb2⟩
   have hb12:Below wr.heap.size wr w2:=bl1.trans (hb2.mono bl1.size)
   have hB2:Below w.heap.size w w2:=hb.trans (hb12.mono hb.size)
   have HO2:=Lib.hid (HO7.out.below hb12);have HBx:=Lib.hid (HX.out.later hb12)
   have lt2:w.heap.size<w2.heap.size:=HBx.out.here
   cases R
   ·have HS:Hid (waitK l (k+1)=E):=by show _=_;rw [HST.out];simp
    go_wp2_with fail
    go_round
    case rel=>exact ⟨k+1,by omega,by go_num,(by show OwnK _ _ _ _ _ _;rw [HS.out];exact HO2.out),(show _->_ from fun e=>absurd e (by omega)),HBx,hB2⟩
    case measure=>simp [intOf];omega
   ·have HS:Hid (waitK l (k+1)=E ++ [k]):=by show _=_;rw [HST.out];simp
    go_wp2_with (first | ((with_reducible refine append_k _ rfl (.tmp 15) (.tmp 17) 150 rfl (w.heap.size+1) 3 _ 1 8 Tryz.underlying150 infoI14 rfl (by omega) u3 (cellsI (ints E)) rfl (HO2.out.alloc _) ⟨w2.heap.size,0,none⟩ 1 1 (cellsI [(k:Int)]) rfl (fresh_k w2 1 _ _ rfl) (cellsI_k _) (cellsI_one _) rfl (by simp [cellsI,ints,maxLen];omega) (by simp [cellsI,ints];omega) (by simp;omega) ?_);intro u7' w3 hO3 hg3;rw [<- cellsI_append] at hO3;have HO3:=Lib.hid hO3;clear hO3;have HBx3:=Lib.hid ((HBx.out.later ((Below.refl _ _).alloc (Nat.le_refl _) _)).stays hg3 (fun e=>by have:=HO2.out.block _ e.symm;omega));have hB3:Below w.heap.size w w3:=(hB2.alloc hB2.size _).grown hg3 (by simp;omega) (fun g e=>by have:=HO2.out.block _ e;omega);clear hg3))
    go_round
    case rel=>exact ⟨k+1,by omega,by go_num,(by show OwnK _ _ _ _ _ _;rw [HS.out];have h:=HO3.out;simpa [ints] using h),(show _->_ from fun e=>absurd e (by omega)),HBx3,hB3⟩
    case measure=>simp [intOf];omega
  ·have hk':k=n:=by omega
   subst hk'
   have h:=HO.out
   obtain ⟨B,c,hv,hr',hc1,hc2,_⟩:=h.sl
   have hv':=hv
   rw [cellsI_length] at hv'
   obtain ⟨nf,hnf⟩:∃ nf,nf=(ints (waitK l k)).length:=⟨_,rfl⟩
   have hnf2:nf=(waitK l l.length).length:=by rw [hnf,hn.out];simp [ints]
   have hnl:nf<=1000000:=by rw [hnf2];have:=waitK_len l l.length;have:=hn.out;omega
   rw [<- hnf] at hv'
   rw [show waitK l k=waitK l l.length by rw [hn.out],<- vals14] at h
   rw [hv'] at h
   have k1:=StI.stable_own (val:=val14 l) (cf:=cf14 l) (cb:=#[.pointer (some ⟨w.heap.size,0,none⟩)]) (swo14 l) enter14 (l:=waitK l l.length) (w:=wr) (base:=w.heap.size+1) (v:=.slice B nf c) rfl hnf2 h (by omega) (by omega) (fun b hbv W hgW x y=>by
    have hn0:0<k:=by
     rcases Nat.eq_zero_or_pos k with h0 | h0
     ·rw [<- hv',HV.out h0] at hbv;cases hbv
     ·exact h0
    have hgb:=h.block b hbv
    have hbW:Below (w.heap.size+1) wr W:=(Below.refl _ _).grown hgW (by omega) (fun g e=>by injection e with e;omega)
    have hk2:=hn.out
    exact closure14_any A k cap w.heap.size l (at14 l x) (at14 l y) W hn (by show min _ _<_;omega) (by show min _ _<_;omega) hl (Lib.hid (hA.out.later (hb.trans (hbW.mono (by omega))))) (Lib.hid ((hbW.cell (p:=⟨w.heap.size,0,none⟩) (by show w.heap.size<_;omega)).trans (HX.out.cellAt 0))))
   have K1:=Lib.hid k1
   have HW:Hid (∀ W:List Nat,W.Perm (List.range (waitK l l.length).length)->W.Pairwise (Fore fun i y=>ltOf (cf14 l) ((waitK l l.length).getD i default) ((waitK l l.length).getD y default))->((W.map fun i=>(waitK l l.length).getD i default)).map (val14 l)=ints (srtU l)):=fun W h1 h2=>by
    rw [sorted14 h1 h2]
    unfold ints
    refine List.map_congr_left fun i hi=>?_
    have:=(srtU_mem.1 hi).1
    show ((min i (l.length - 1):Nat):Int)=_
    rw [Nat.min_eq_left (by omega)]
   subst hv'
   clear k1 h hr' hc1 hc2 hv hnf hnf2 HO HV
   go_wp2_with fail
   refine K1.out.mono ?_;rintro e w2 ⟨rfl,W,hW1,hW2,hO2,hb2⟩
   rw [HW.out W hW1 hW2] at hO2
   have HO2:=Lib.hid hO2
   clear hW1 hW2 hO2
   go_wp2_with fail
   go_ret
   exact ⟨⟨_,rfl,OwnK.base HO2.out (by omega)⟩,hb.trans (hb2.mono (by omega))⟩
end
section
open Go.RowKit
def cntG (l:List Jb) (k:Nat) (s:ByteArray):Nat:=if s.size=0 then 0 else manyK l s k
def selG (l:List Jb) (S:List Nat) (s:ByteArray):List Nat:=if s.size=0 then [] else gangOf l s S
theorem cntG_le (l:List Jb) (k:Nat) (s:ByteArray):cntG l k s<=k:=by
 unfold cntG;split
 ·omega
 ·exact manyK_le l s k
theorem selG_len (l:List Jb) (S:List Nat) (s:ByteArray):(selG l S s).length<=S.length:=by
 unfold selG;split
 ·simp
 ·exact gangOf_len l s S
theorem cntG_zero (l:List Jb) (s:ByteArray):cntG l 0 s=0:=by unfold cntG manyK;simp
theorem cntG_no {l:List Jb} {k:Nat} (h:k<l.length) (hg:l[k].ga.size=0) (s:ByteArray):cntG l (k+1) s=cntG l k s:=by
 unfold cntG
 by_cases hs:s.size=0
 ·rw [if_pos hs,if_pos hs]
 ·rw [if_neg hs,if_neg hs,manyK_succ h]
  have:sE l[k].ga s=false:=by
   cases he:sE l[k].ga s
   ·rfl
   ·rw [sE_iff] at he;rw [he] at hg;exact absurd hg hs
  rw [this];rfl
theorem cntG_yes {l:List Jb} {k:Nat} (h:k<l.length) (hg:l[k].ga.size ≠ 0) (s:ByteArray):cntG l (k+1) s=if s=l[k].ga then cntG l k l[k].ga+1 else cntG l k s:=by
 by_cases hs:s=l[k].ga
 ·rw [if_pos hs]
  subst hs
  unfold cntG
  rw [if_neg hg,if_neg hg,manyK_succ h,sE_refl];rfl
 ·rw [if_neg hs]
  unfold cntG
  by_cases hz:s.size=0
  ·rw [if_pos hz,if_pos hz]
  ·rw [if_neg hz,if_neg hz,manyK_succ h]
   have:sE l[k].ga s=false:=by
    cases he:sE l[k].ga s
    ·rfl
    ·rw [sE_iff] at he;exact absurd he.symm hs
   rw [this];rfl
theorem selG_no {l:List Jb} {S:List Nat} {k:Nat} (h:k<S.length) (hg:(jat l S[k]).ga.size=0) (s:ByteArray):selG l (S.take (k+1)) s=selG l (S.take k) s:=by
 unfold selG
 by_cases hs:s.size=0
 ·rw [if_pos hs,if_pos hs]
 ·rw [if_neg hs,if_neg hs,gangOf_take h]
  have:sE (jat l S[k]).ga s=false:=by
   cases he:sE (jat l S[k]).ga s
   ·rfl
   ·rw [sE_iff] at he;rw [he] at hg;exact absurd hg hs
  rw [this];simp
theorem selG_yes {l:List Jb} {S:List Nat} {k:Nat} (h:k<S.length) (hg:(jat l S[k]).ga.size ≠ 0) (s:ByteArray):selG l (S.take (k+1)) s=if s=(jat l S[k]).ga then selG l (S.take k) (jat l S[k]).ga ++ [S[k]] else selG l (S.take k) s:=by
 by_cases hs:s=(jat l S[k]).ga
 ·rw [if_pos hs]
  subst hs
  unfold selG
  rw [if_neg hg,if_neg hg,gangOf_take h,sE_refl];rfl
 ·rw [if_neg hs]
  unfold selG
  by_cases hz:s.size=0
  ·rw [if_pos hz,if_pos hz]
  ·rw [if_neg hz,if_neg hz,gangOf_take h]
   have:sE (jat l S[k]).ga s=false:=by
    cases he:sE (jat l S[k]).ga s
    ·rfl
    ·rw [sE_iff] at he;exact absurd he.symm hs
   rw [this];simp
abbrev zG:Value:=.agg #[.int .i64 0,.slice none 0 0]
theorem zeroG (w:World):(zeroValue 219).run Tryz.prog w = .ok zG w:=by kernel_rfl
def entG (l:List Jb) (k:Nat) (V:ByteArray->Value) (s:ByteArray):Value:=.agg #[.int .i64 (cntG l k s),V s]
structure Gok (w:World) (b:Nat) (V:ByteArray->Value) (G:ByteArray->List Nat):Prop where
 el:∀ s,OwnK w b 3 1 (V s) (cellsI (ints (G s)))
 ap:∀ s s',s ≠ s' -> (V s).ownBlock=none ∨ (V s).ownBlock ≠ (V s').ownBlock
theorem Gok.later {w w':World} {b:Nat} {V:ByteArray->Value} {G:ByteArray->List Nat} (h:Gok w b V G) (hb:Below w.heap.size w w'):Gok w' b V G:=⟨fun s=>(h.el s).below hb,h.ap⟩
theorem Gok.grown {w w':World} {b:Nat} {V:ByteArray->Value} {G:ByteArray->List Nat} {row:Option Nat} (h:Gok w b V G) (hg:w.grownBy w' row) (hne:∀ s,(V s).ownBlock=none ∨ (V s).ownBlock ≠ row):Gok w' b V G:=⟨fun s=>(h.el s).grown hg (hne s),h.ap⟩
theorem Gok.put {w w':World} {b:Nat} {V:ByteArray->Value} {G G':ByteArray->List Nat} {v':Value} {s:ByteArray} (h:Gok w b V G) (hO:OwnK w' b 3 1 v' (cellsI (ints (G' s)))) (hg:w.grownBy w' (V s).ownBlock)
  (hat:v'.ownBlock=(V s).ownBlock ∨ v'.ownBlock=some w.heap.size) (hG:∀ s',s' ≠ s->G' s' = G s'):Gok w' b (fun s'=>if s' = s then v' else V s') G' where
 el s':=by
  show OwnK w' b 3 1 (if s' = s then v' else V s') _
  by_cases hs:s' = s
  ·subst hs;rw [if_pos rfl];exact hO
  ·rw [if_neg hs,hG s' hs];exact (h.el s').grown hg (h.ap s' s hs)
 ap s1 s2 hne:=by
  show (if s1=s then v' else V s1).ownBlock=none ∨ (if s1=s then v' else V s1).ownBlock ≠ (if s2=s then v' else V s2).ownBlock
  by_cases h1:s1=s
  ·subst h1
   rw [if_pos rfl,if_neg (fun e=>hne e.symm)]
   rcases hat with hat | hat
   ·rw [hat];exact h.ap s1 s2 hne
   ·refine .inr fun e=>?_
    rw [hat] at e
    have:=(h.el s2).lt e.symm
    omega
  ·rw [if_neg h1]
   by_cases h2:s2=s
   ·subst h2
    rw [if_pos rfl]
    rcases hat with hat | hat
    ·rw [hat];exact h.ap s1 s2 hne
    ·refine .inr fun e=>?_
     rw [hat] at e
     have:=(h.el s1).lt e
     omega
   ·rw [if_neg h2];exact h.ap s1 s2 hne


theorem collect14_any (A:Option Addr) (n cap:Nat) (l:List Jb) (B:Option Addr) (q c:Nat) (S:List Nat) (w:World) (hn:Hid (n=l.length)) (hl:n<=1000000) (hA:Hid (RdJ w A l)) (hq:Hid (q=S.length)) (hB:Hid (RdI w B (ints S))) (hS:Hid (∀ y ∈ S,y<l.length)) (hqn:q<=n) :
  Calls Tryz.prog 188 #[.slice A n cap,.slice B q c] w fun e w'=>(∃ b V,e = .returned (.map (some b))/\w.heap.size<=b/\MapF w' b zG (entG l n V)/\Gok w' w.heap.size V (selG l S))/\Below w.heap.size w w':=by
 have hmm:=@run_makeMap Tryz.prog
 go_enter Tryz.func188,Tryz.ntmps188
 have HM0:=Lib.hid (show MapF (w.alloc (.map #[] 0)) w.heap.size zG (entG l 0 fun _=>.slice none 0 0) from by
  have h:=MapF.made w zG
  rwa [show (fun _=>zG)=entG l 0 fun _=>.slice none 0 0 from funext fun s=>by unfold entG;rw [cntG_zero];rfl] at h)
 have hB0:Below w.heap.size w (w.alloc (.map #[] 0)):=(Below.refl _ _).alloc (Nat.le_refl _) _
 go_wp2_with fail
 clear hmm
 go_loopw [17] (fun i wr=>∃ k:Nat,k<=n/\i = .int .i64 k/\Hid (MapF wr w.heap.size zG (entG l k fun _=>.slice none 0 0))/\Below w.heap.size w wr) (fun i wr=>n - (intOf i).toNat)
 case atStart=>exact ⟨0,Nat.zero_le _,rfl,HM0,hB0⟩
 case round=>
  clear HM0 hB0
  obtain ⟨k,hk,rfl,HM,hb⟩:=hrel
  have lt0:w.heap.size<wr.heap.size:=HM.out.lt
  by_cases hlt:k<n
  ·have hlk:k<l.length:=by have:=hn.out;omega
   obtain ⟨g,o,hAg,hg,hj⟩:=(hA.out.later hb).at hlk
   subst hAg
   have hno:=cntG_no hlk
   have hyes:=cntG_yes hlk
   obtain ⟨j,hjk⟩:∃ j,j=l[k]:=⟨_,rfl⟩
   rw [<- hjk] at hj hno hyes
   have HJ:=Lib.hid hj;have HNo:=Lib.hid hno;have HYes:=Lib.hid hyes
   clear hj hjk hno hyes
   by_cases h0:j.ga.size=0
   ·have hga:j.ga=⟨#[]⟩:=empty_of h0
    have HE:Hid (entG l (k+1) (fun _=>.slice none 0 0)=entG l k fun _=>.slice none 0 0):=by
     show _=_
     funext s
     unfold entG
     rw [HNo.out h0 s]
    have HGA:=Lib.hid hga
    clear h0 hga HNo HYes
    go_wp2_with (first | (with_reducible refine load_rg rfl 66 _ rfl g (o+k * 13) rfl j.arr _ HJ.out.rg Tryz.underlying66 rfl (by kernel_rfl) ?_) | ((with_reducible refine store_bk rfl 66 (.tmp 7) (.tmp 20) rfl wr.heap.size 0 j.arr rfl rfl 66 _ j.arr (Bk.fresh _ _ _) (by kernel_rfl) (by simp) (by kernel_rfl) rfl ?_);intro w1 hB1 hg1 hs1;have bl1:Below wr.heap.size wr w1:=grown_below ((Below.refl _ _).alloc (Nat.le_refl _) _) hg1 (Nat.le_refl _);have c8:w1.cell? ⟨wr.heap.size,8,none⟩=some (.string ⟨#[]⟩):=(hB1.cellAt 8).trans (congrArg (fun x=>some (Value.string x)) HGA.out);clear hB1 hg1 hs1))
    go_round
    case rel=>exact ⟨k+1,by omega,by go_num,(by show MapF _ _ _ _;rw [HE.out];exact HM.out.later bl1),hb.trans (bl1.mono hb.size)⟩
    case measure=>simp [intOf];omega
   ·obtain ⟨hf1,hf2⟩:=full_of h0
    obtain ⟨x,hx⟩:∃ x,x=cntG l k j.ga:=⟨_,rfl⟩
    have hxk:x<=k:=by rw [hx];exact cntG_le l k j.ga
    have HE:Hid ((fun s=>if s=j.ga then Value.agg #[.int .i64 ((x:Int)+1),.slice none 0 0] else entG l k (fun _=>.slice none 0 0) s)=entG l (k+1) fun _=>.slice none 0 0):=by
     show _=_
     funext s
     unfold entG
     rw [HYes.out h0 s]
     by_cases hs:s=j.ga
     ·rw [if_pos hs,if_pos hs,hx];rfl
     ·rw [if_neg hs,if_neg hs]
    have HV:Hid (entG l k (fun _=>.slice none 0 0) j.ga = .agg #[.int .i64 (x:Int),.slice none 0 0]):=by show _=_;unfold entG;rw [hx]
    clear h0 hx HNo HYes
    go_wp2_with (first | (with_reducible refine load_rg rfl 66 _ rfl g (o+k * 13) rfl j.arr _ HJ.out.rg Tryz.underlying66 rfl (by kernel_rfl) ?_) | ((with_reducible refine store_bk rfl 66 (.tmp 7) (.tmp 20) rfl wr.heap.size 0 j.arr rfl rfl 66 _ j.arr (Bk.fresh _ _ _) (by kernel_rfl) (by simp) (by kernel_rfl) rfl ?_);intro w1 hB1 hg1 hs1;have bl1:Below wr.heap.size wr w1:=grown_below ((Below.refl _ _).alloc (Nat.le_refl _) _) hg1 (Nat.le_refl _);have c8:w1.cell? ⟨wr.heap.size,8,none⟩=some (.string j.ga):=hB1.cellAt 8;have lw1:wr.heap.size<w1.heap.size:=hB1.here;have HM1:=Lib.hid (HM.out.later bl1);clear hB1 hg1 hs1) | (with_reducible refine look_v _ rfl _ _ 216 rfl 9 219 Tryz.underlying216 Tryz.underlying9 zG (zeroG _) w.heap.size _ rfl HM1.out j.ga rfl _ HV.out ?_) | ((with_reducible refine store_bk rfl 219 (.tmp 9) (.tmp 28) rfl w1.heap.size 0 #[.int .i64 (x:Int),.slice none 0 0] rfl rfl 219 _ #[.int .i64 (x:Int),.slice none 0 0] (Bk.fresh _ _ _) (by kernel_rfl) (by simp) (by kernel_rfl) rfl ?_);intro w2 hB2 hg2 hs2;have bl2:Below wr.heap.size wr w2:=bl1.trans ((grown_below ((Below.refl _ _).alloc (Nat.le_refl _) _) hg2 (Nat.le_refl _)).mono bl1.size);have cg0:w2.cell? ⟨w1.heap.size,0,none⟩=some (.int .i64 (x:Int)):=hB2.cellAt 0;have HB2:=Lib.hid hB2;clear hB2 hg2 hs2) | ((with_reducible refine store1_bk rfl 3 (.tmp 32) (.tmp 31) rfl w1.heap.size 0 (.int .i64 ((x:Int)+1)) rfl rfl 219 _ #[.int .i64 ((x:Int)+1),.slice none 0 0] HB2.out (by kernel_rfl) (by simp) rfl rfl rfl ?_);intro w3 hB3 hg3 hs3;have bl3:Below wr.heap.size wr w3:=bl2.grown hg3 bl2.size (fun gg e=>by injection e with e;omega);have HB3:=Lib.hid hB3;have HM3:=Lib.hid (HM.out.later bl3);clear hB3 hg3 hs3) | (with_reducible refine load_bk rfl 219 _ rfl w1.heap.size 0 rfl 219 #[.int .i64 ((x:Int)+1),.slice none 0 0] #[.int .i64 ((x:Int)+1),.slice none 0 0] _ HB3.out (Part.whole _) Tryz.underlying219 rfl (by kernel_rfl) ?_) | ((with_reducible refine store_f _ rfl _ _ _ 216 rfl 9 219 Tryz.underlying216 Tryz.underlying9 w.heap.size zG _ rfl HM3.out j.ga rfl (.agg #[.int .i64 ((x:Int)+1),.slice none 0 0]) rfl ?_);intro w4 hM4 hg4;rw [HE.out] at hM4;have HM4:=Lib.hid hM4;have hB4:Below w.heap.size w w4:=(hb.trans (bl3.mono hb.size)).grown hg4 (Nat.le_trans hb.size bl3.size) (fun gg e=>by injection e with e;omega);clear hM4 hg4))
    go_round
    case rel=>exact ⟨k+1,by omega,by go_num,HM4,hB4⟩
    case measure=>simp [intOf];omega
  ·have hk':k=n:=by omega
   subst hk'
   obtain ⟨wa,hwa⟩:∃ wa,wa=wr:=⟨_,rfl⟩
   subst hwa
   have hG0:Gok wa (w.heap.size+1) (fun _=>.slice none 0 0) (selG l (S.take 0)):=⟨fun s=>by rw [show selG l (S.take 0) s=[] by unfold selG gangOf;simp];exact OwnK.nil _ _ _ _,fun _ _ _=>.inl rfl⟩
   have HG0:=Lib.hid hG0;clear hG0
   go_wp2_with fail
   go_loopw [39] (fun i wi=>∃ a:Nat,a<=q/\i = .int .i64 a/\(∃ V,Hid (MapF wi w.heap.size zG (entG l k V))/\Hid (Gok wi (w.heap.size+1) V (selG l (S.take a))))/\Below w.heap.size w wi) (fun i wi=>q - (intOf i).toNat)
   case atStart=>exact ⟨0,Nat.zero_le _,rfl,⟨_,HM,HG0⟩,hb⟩
   case round=>
    clear HG0 HM hb lt0
    obtain ⟨a,ha,rfl,⟨V,HM,HG⟩,hb⟩:=hrel
    have lt0:w.heap.size<wr.heap.size:=HM.out.lt
    by_cases haq:a<q
    ·have haS:a<S.length:=by have:=hq.out;omega
     obtain ⟨g7,o7,hB7,hg7,c7⟩:=(hB.out.later hb).at (i:=a) (by simpa [ints] using haS)
     subst hB7
     have hno:=selG_no (l:=l) haS
     have hyes:=selG_yes (l:=l) haS
     obtain ⟨p,hp⟩:∃ p,p=S[a]:=⟨_,rfl⟩
     rw [show (ints S)[a]'(by simpa [ints] using haS)=(p:Int) by rw [hp];simp [ints]] at c7
     have hpl:p<l.length:=by rw [hp];exact hS.out _ (List.getElem_mem haS)
     rw [<- hp,jat_at hpl] at hno hyes
     have hpn:p<k:=by have:=hn.out;omega
     obtain ⟨g,o,hAg,hg,hj⟩:=(hA.out.later hb).at hpl
     subst hAg
     obtain ⟨j,hjk⟩:∃ j,j=l[p]:=⟨_,rfl⟩
     rw [<- hjk] at hj hno hyes
     have c8:=hj.ga
     have HNo:=Lib.hid hno;have HYes:=Lib.hid hyes
     clear hj hjk hno hyes hp
     by_cases h0:j.ga.size=0
     ·have hga:j.ga=⟨#[]⟩:=empty_of h0
      have HE:Hid (selG l (S.take (a+1))=selG l (S.take a)):=by show _=_;funext s;exact HNo.out h0 s
      rw [hga] at c8
      clear h0 hga HNo HYes
      go_wp2_with fail
      go_round
      case rel=>exact ⟨a+1,by omega,by go_num,⟨V,HM,(by show Gok _ _ _ _;rw [HE.out];exact HG.out)⟩,hb⟩
      case measure=>simp [intOf];omega
     ·obtain ⟨hf1,hf2⟩:=full_of h0
      obtain ⟨E,hE⟩:∃ E,E=selG l (S.take a) j.ga:=⟨_,rfl⟩
      have hEl:E.length<=a:=by rw [hE];exact Nat.le_trans (selG_len _ _ _) (by rw [List.length_take];omega)
      have ho:=HG.out.el j.ga
      rw [<- hE] at ho
      obtain ⟨Ag,cg,hv,_,_,_⟩:=ho.rdi
      obtain ⟨mg,hmg⟩:∃ mg,mg=(ints E).length:=⟨_,rfl⟩
      rw [<- hmg] at hv
      rw [hv] at ho
      obtain ⟨x,hx⟩:∃ x,x=cntG l k j.ga:=⟨_,rfl⟩
      have HV:Hid (entG l k V j.ga = .agg #[.int .i64 (x:Int),.slice Ag mg cg]):=by show _=_;unfold entG;rw [hx,hv]
      have HNew:Hid (∀ v',(fun s=>if s=j.ga then Value.agg #[.int .i64 (x:Int),v'] else entG l k V s)=entG l k fun s=>if s=j.ga then v' else V s):=by
       show ∀ v',_=_
       intro v'
       funext s
       unfold entG
       by_cases hs:s=j.ga
       ·subst hs
        simp [hx]
       ·simp [hs]
      have HSel:Hid (selG l (S.take (a+1)) j.ga=E ++ [p]):=by show _=_;rw [HYes.out h0,if_pos rfl,hE]
      have HOth:Hid (∀ s,s ≠ j.ga->selG l (S.take (a+1)) s=selG l (S.take a) s):=by show ∀ s,_->_;intro s hs;rw [HYes.out h0,if_neg hs]
      have HO:=Lib.hid ho;have HVv:=Lib.hid hv
      clear h0 hx HNo HYes hE ho hv hmg
      go_wp2_with (first | (with_reducible refine look_v _ rfl _ _ 216 rfl 9 219 Tryz.underlying216 Tryz.underlying9 zG (zeroG _) w.heap.size _ rfl HM.out j.ga rfl _ HV.out ?_) | ((with_reducible refine store_bk rfl 219 (.tmp 13) (.tmp 53) rfl wr.heap.size 0 #[.int .i64 (x:Int),.slice Ag mg cg] rfl rfl 219 _ #[.int .i64 (x:Int),.slice Ag mg cg] (Bk.fresh _ _ _) (by kernel_rfl) (by simp) (by kernel_rfl) rfl ?_);intro w2 hB2 hg2 hs2;have bl2:Below wr.heap.size wr w2:=grown_below ((Below.refl _ _).alloc (Nat.le_refl _) _) hg2 (Nat.le_refl _);have cg1:w2.cell? ⟨wr.heap.size,1,none⟩=some (.slice Ag mg cg):=hB2.cellAt 1;have HB2:=Lib.hid hB2;have lw2:wr.heap.size<w2.heap.size:=hB2.here;clear hB2 hg2 hs2) | ((with_reducible refine append_ka _ rfl (.tmp 55) (.tmp 57) 150 rfl (w.heap.size+1) 3 _ 1 8 Tryz.underlying150 infoI rfl (by omega) (.slice Ag mg cg) (cellsI (ints E)) rfl ((HO.out.below bl2).alloc _) ⟨w2.heap.size,0,none⟩ 1 1 (cellsI [(p:Int)]) rfl (fresh_k w2 1 _ _ rfl) (cellsI_k _) (cellsI_one _) rfl (by simp [cellsI,ints,maxLen];omega) (by simp [cellsI,ints];omega) (by simp;omega) ?_);intro v' w3 hO3 hg3 hat3;rw [<- cellsI_append] at hO3;have hal:Below w2.heap.size w2 (w2.alloc (.cells #[.int .i64 (p:Int)] 3)):=(Below.refl _ _).alloc (Nat.le_refl _) _;have hG3:Gok w3 (w.heap.size+1) (fun s=>if s=j.ga then v' else V s) (selG l (S.take (a+1))):=Gok.put ((HG.out.later bl2).later hal) (by rw [HSel.out];simpa [ints] using hO3) (by rw [HVv.out];exact hg3) (by rw [HVv.out];exact hat3) HOth.out;have hB3:Bk w3 wr.heap.size 219 #[.int .i64 (x:Int),.slice Ag mg cg]:=(HB2.out.later hal).stays hg3 (fun e=>(((HO.out.below bl2).below hal).notBk (HB2.out.later hal) (by decide)).elim (fun h=>by rw [h] at e;cases e) (fun h=>h e.symm));have hM3:MapF w3 w.heap.size zG (entG l k V):=((HM.out.later bl2).later hal).kept hg3 (fun e=>by have:=HO.out.block _ e.symm;omega);have hBl3:Below w.heap.size w w3:=((hb.trans (bl2.mono hb.size)).trans (hal.mono (by omega))).grown hg3 (by simp;omega) (fun gg e=>by have:=HO.out.block _ e;omega);have HG3:=Lib.hid hG3;have HB3:=Lib.hid hB3;have HM3:=Lib.hid hM3;have HO3:=Lib.hid hO3;clear hG3 hB3 hM3 hO3 hg3 hat3 hal) | ((with_reducible refine store1_bk rfl 150 (.tmp 59) (.tmp 58) rfl wr.heap.size 1 v' rfl rfl 219 _ #[.int .i64 (x:Int),v'] HB3.out (by kernel_rfl) (by simp) HO3.out.one1 HO3.out.cellsV rfl ?_);intro w4 hB4 hg4 hs4;have HM4:=Lib.hid (HM3.out.kept hg4 (fun e=>by injection e with e;omega));have HG4:=Lib.hid (HG3.out.grown hg4 (fun s=>(HG3.out.el s).notBk HB3.out (by decide)));have hBl4:Below w.heap.size w w4:=hBl3.grown hg4 hBl3.size (fun gg e=>by injection e with e;omega);have HB4:=Lib.hid hB4;clear hB4 hg4 hs4) | (with_reducible refine load_bk rfl 219 _ rfl wr.heap.size 0 rfl 219 #[.int .i64 (x:Int),v'] #[.int .i64 (x:Int),v'] _ HB4.out (Part.whole _) Tryz.underlying219 rfl (by kernel_rfl) ?_) | ((with_reducible refine store_f _ rfl _ _ _ 216 rfl 9 219 Tryz.underlying216 Tryz.underlying9 w.heap.size zG _ rfl HM4.out j.ga rfl (.agg #[.int .i64 (x:Int),v']) rfl ?_);intro w5 hM5 hg5;rw [HNew.out v'] at hM5;have HM5:=Lib.hid hM5;have HG5:=Lib.hid (HG4.out.grown hg5 (fun s=>(HG4.out.el s).notMap HM4.out));have hB5:Below w.heap.size w w5:=hBl4.grown hg5 hBl4.size (fun gg e=>by injection e with e;omega);clear hM5 hg5))
      go_round
      case rel=>exact ⟨a+1,by omega,by go_num,⟨_,HM5,HG5⟩,hB5⟩
      case measure=>simp [intOf];omega
    ·have haq':a=q:=by omega
     subst haq'
     have hg:=HG.out
     rw [show S.take a=S by rw [hq.out];exact List.take_length] at hg
     have HG6:=Lib.hid hg;clear hg HG
     go_wp2_with fail
     go_ret
     exact ⟨⟨_,V,rfl,Nat.le_refl _,HM.out,⟨fun s=>OwnK.base (HG6.out.el s) (by omega),HG6.out.ap⟩⟩,hb⟩
end
section
open Go.RowKit
theorem cellW {w:World} {A:Option Addr} {vs:List Value} (h:RdK w 1 A (cellsW vs)) {i:Nat} {v:Value} (hv:vs[i]? = some v):∃ g o,A=some ⟨g,o,none⟩/\g<w.heap.size/\w.cell? ⟨g,o+i,none⟩=some v:=by
 obtain ⟨g,o,ha,hr⟩:=h i [v] (by simp [cellsW,hv])
 have hc:=hr 0 v rfl
 rw [Nat.mul_one,Nat.add_zero] at hc
 exact ⟨g,o,ha,World.block_lt_of_cell? w _ hc,hc⟩
end
section
open Go.RowKit
section
variable {w w':World} {A B:Option Addr} {U:List (List Nat)} {u:List Nat} {i k b:Nat} {e:Ending}
theorem RdI.nat (h:RdI w A (ints u)) (hk:k<u.length):∃ g o,A=some ⟨g,o,none⟩/\g<w.heap.size/\w.cell? ⟨g,o+k,none⟩=some (.int .i64 (u[k]:Int)):=by
 obtain ⟨g,o,hA,hg,hc⟩:=h.at (i:=k) (by simpa [ints] using hk)
 refine ⟨g,o,hA,hg,?_⟩
 rw [hc];simp [ints]
end
end
end Go.Proofs.YtccccbofcnmdiaaGreat
