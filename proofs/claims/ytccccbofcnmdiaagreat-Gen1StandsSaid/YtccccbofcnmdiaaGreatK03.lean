/- Lemmas that the law stands on. No condition. -/
import Derived.Test.YtccccbofcnmdiaaGreatK02
namespace Go.Proofs.YtccccbofcnmdiaaGreat
set_option linter.unusedSimpArgs false
set_option linter.unusedVariables false
set_option maxRecDepth 100000
set_option maxHeartbeats 51200000
section
open Go.RowKit
def AscK (K:List ByteArray):Prop:=∀ i j (hi:i<K.length)(hj:j<K.length),i<j->sL K[i] K[j]=true
def lbK (s:ByteArray)(K:List ByteArray):Nat:=(K.takeWhile fun x=>sL x s).length
def hasK (s:ByteArray)(K:List ByteArray):Bool:=K.any fun x=>sE x s
theorem lbK_is {s:ByteArray}:∀ {K:List ByteArray}{i:Nat},i<=K.length->(∀ t (ht:t<K.length),t<i->sL K[t] s=true)->(∀ t (ht:t<K.length),i<=t->sL K[t] s=false)->lbK s K=i
 | [],i,hi,_,_=>by simp at hi;subst hi;rfl
 | x :: K,0,_,_,h2=>by
  unfold lbK
  have h20:sL x s=false:=h2 0 (by simp) (Nat.le_refl _)
  rw [List.takeWhile_cons,if_neg (by rw [h20];simp)];rfl
 | x :: K,i+1,hi,h1,h2=>by
  unfold lbK
  have hx:sL x s=true:=h1 0 (by simp) (by omega)
  rw [List.takeWhile_cons,if_pos hx,List.length_cons]
  congr 1
  exact lbK_is (K:=K) (by simpa using hi) (fun t ht hti=>h1 (t+1) (by simpa using ht) (by omega)) (fun t ht hti=>h2 (t+1) (by simpa using ht) (by omega))
theorem lbK_le (s:ByteArray)(K:List ByteArray):lbK s K<=K.length:=by unfold lbK;exact List.Sublist.length_le (List.takeWhile_sublist _)
theorem lbK_lt {s:ByteArray}:∀ {K:List ByteArray}{t:Nat}(ht:t<K.length),t<lbK s K->sL K[t] s=true
 | x :: K,0,_,h=>by
  unfold lbK at h
  rw [List.takeWhile_cons] at h
  split at h
  ·assumption
  ·simp at h
 | x :: K,t+1,ht,h=>by
  unfold lbK at h
  rw [List.takeWhile_cons] at h
  split at h
  ·exact lbK_lt (K:=K) (by simpa using ht) (by unfold lbK;simpa using h)
  ·simp at h
theorem lbK_at {s:ByteArray}:∀ {K:List ByteArray}(h:lbK s K<K.length),sL (K[lbK s K]) s=false
 | x :: K,h=>by
  by_cases hx:sL x s=true
  ·have e:lbK s (x :: K)=lbK s K+1:=by unfold lbK;rw [List.takeWhile_cons,if_pos hx,List.length_cons]
   simp only [e,tC]
   exact lbK_at (K:=K) (by rw [e] at h;simpa using h)
  ·have e:lbK s (x :: K)=0:=by unfold lbK;rw [List.takeWhile_cons,if_neg hx];rfl
   simp only [e,tB]
   simpa using hx
theorem hasK_at {s:ByteArray}{K:List ByteArray}(hA:AscK K)(h:lbK s K<K.length):hasK s K=sE K[lbK s K] s:=by
 rw [Bool.eq_iff_iff]
 unfold hasK
 rw [List.any_eq_true]
 constructor
 ·rintro ⟨x,hx,he⟩
  obtain ⟨t,ht,rfl⟩:=List.getElem_of_mem hx
  have hts:K[t]=s:=sE_iff.1 he
  have h1:lbK s K<=t:=by
   rcases Nat.lt_or_ge t (lbK s K) with hlt | hge
   ·have:=lbK_lt ht hlt;rw [hts,sL_irrefl] at this;cases this
   ·exact hge
  rcases Nat.eq_or_lt_of_le h1 with e | hlt
  ·subst e;exact he
  ·have h2:=hA (lbK s K) t h ht hlt
   rw [hts,lbK_at h] at h2;cases h2
 ·intro he
  exact ⟨_,List.getElem_mem h,he⟩
theorem hasK_end {s:ByteArray}{K:List ByteArray}(h:lbK s K=K.length):hasK s K=false:=by
 unfold hasK
 rw [List.any_eq_false]
 intro x hx he
 obtain ⟨t,ht,rfl⟩:=List.getElem_of_mem hx
 have:=lbK_lt (s:=s) ht (by rw [h];exact ht)
 rw [sE_iff.1 he,sL_irrefl] at this;cases this
theorem cmpB_neg (a b:ByteArray):decide (Lib.compareBytes a.data.toList b.data.toList<0)=sL a b:=by
 rw [Bool.eq_iff_iff,decide_eq_true_eq,compareBytes_neg,sL_iff]
theorem cmpB_zero':∀ (a b:List UInt8),(Lib.compareBytes a b=0) ↔ a=b
 | [],[]=>by simp [Lib.compareBytes]
 | [],_ :: _=>by simp [Lib.compareBytes]
 | _ :: _,[]=>by simp [Lib.compareBytes]
 | x :: a,y :: b=>by
  unfold Lib.compareBytes
  by_cases h1:x<y
  ·have:x ≠ y:=by rintro rfl;exact absurd h1 (UInt8.lt_irrefl _)
   simp [h1,this]
  ·by_cases h2:y<x
   ·have:x ≠ y:=by rintro rfl;exact h1 h2
    simp [h1,h2,this]
   ·have:x=y:=UInt8.le_antisymm (UInt8.not_lt.1 h2) (UInt8.not_lt.1 h1)
    subst this
    simp [h1,cmpB_zero' a b]
theorem cmpB_zero (a b:ByteArray):decide (Lib.compareBytes a.data.toList b.data.toList=0)=sE a b:=by
 rw [Bool.eq_iff_iff,decide_eq_true_eq,cmpB_zero',sE_iff]
 exact ⟨fun h=>Go.WideShapes.bytes_inj h,fun h=>by rw [h]⟩

theorem nameQ_any (q:Qx)(w:World):Calls Tryz.prog 96 #[.agg q.arr] w fun e w'=>e = .returned (.string q.1)/\Below w.heap.size w w':=by
 obtain ⟨a0,a1,a2,a3⟩:=q
 go_enter Tryz.func96,Tryz.ntmps96
 go_wp2
 go_ret
 exact ⟨rfl,(Below.refl _ _).alloc (Nat.le_refl _) _⟩


theorem findQ1_any (q:Qx)(s:ByteArray) (c:Nat)(w:World)(hc:w.cell? ⟨c,0,none⟩=some (.func (.func 96) #[] #[])) :
  Calls Tryz.prog 137 #[.agg q.arr,.string s,.pointer (some ⟨c,0,none⟩)] w fun e w'=>e = .returned (.int .i64 (Lib.compareBytes (q.1).data.toList s.data.toList))/\Below w.heap.size w w':=by
 have k1:=fun W=>nameQ_any q W
 have k2:=fun W=>compare_any (q.1) s W
 obtain ⟨a0,a1,a2,a3⟩:=q
 simp only at k1 k2 ⊢
 have hlt:=World.block_lt_of_cell? w _ hc
 generalize Lib.compareBytes a0.data.toList s.data.toList=r at k2 ⊢
 have K1:=Lib.hid k1;have K2:=Lib.hid k2;clear k1 k2
 have hc':(w.alloc (.cells #[.string a0,.int .i64 a1,.int .i64 a2,.int .i64 a3] 45)).cell? ⟨c,0,none⟩=some (.func (.func 96) #[] #[]):=Lib.cell?_alloc_some _ hc
 have HB:Hid (Bk (w.alloc (.cells #[.string a0,.int .i64 a1,.int .i64 a2,.int .i64 a3] 45)) w.heap.size 45 #[.string a0,.int .i64 a1,.int .i64 a2,.int .i64 a3]):=Bk.fresh _ _ _
 go_enter Tryz.func137,Tryz.ntmps137
 go_wp2_with ((with_reducible refine load_bk rfl 45 _ rfl w.heap.size 0 rfl 45 #[.string a0,.int .i64 a1,.int .i64 a2,.int .i64 a3] #[.string a0,.int .i64 a1,.int .i64 a2,.int .i64 a3] _ HB.out (Part.whole _) Tryz.underlying45 rfl (by kernel_rfl) ?_))
 refine (K1.out _).mono ?_;rintro e w1 ⟨rfl,hb1⟩
 go_wp2_with fail
 refine (K2.out _).mono ?_;rintro e w2 ⟨rfl,rfl⟩
 go_wp2_with fail
 go_ret
 exact ⟨rfl,((Below.refl _ _).alloc (Nat.le_refl _) _).trans (hb1.mono (by simp))⟩


theorem searchQ_any (A:Option Addr) (n cap:Nat)(L:List Qx)(s:ByteArray) (c:Nat)(w:World)(hn:Hid (n=L.length))(hr:Hid (RdQ w A (L)))(hbig:n<=1000)(hs:Hid (AscK (L.map fun q=>q.1)))(hc:Hid (w.cell? ⟨c,0,none⟩=some (.func (.func 96) #[] #[]))) :
  Calls Tryz.prog 136 #[.slice A n cap,.string s,.func (.func 137) #[] #[.pointer (some ⟨c,0,none⟩)]] w fun e w'=>e = .returned (.tuple #[.int .i64 (lbK s (L.map fun q=>q.1)),.bool (hasK s (L.map fun q=>q.1))])/\Below w.heap.size w w':=by
 have k1:=fun (q:Qx)(W:World)(h:W.cell? ⟨c,0,none⟩=some (.func (.func 96) #[] #[]))=>findQ1_any q s c W h
 obtain ⟨p,hp⟩:∃ p,p=lbK s (L.map fun q=>q.1):=⟨_,rfl⟩
 obtain ⟨f,hf⟩:∃ f,f=hasK s (L.map fun q=>q.1):=⟨_,rfl⟩
 rw [<- hp,<- hf]
 have HP:=Lib.hid hp;have HF:=Lib.hid hf
 have K1:=Lib.hid k1;clear k1 hp hf
 have hclt:=World.block_lt_of_cell? w _ hc.out
 go_enter Tryz.func136,Tryz.ntmps136
 go_wp2_with fail
 go_loopw [9,10] (fun vi vj wr=>∃ i j:Nat,vi = .int .i64 i/\vj = .int .i64 j/\i<=j/\j<=n/\Hid (∀ t (ht:t<(L.map fun q=>q.1).length),t<i->sL (L.map fun q=>q.1)[t] s=true)/\Hid (∀ t (ht:t<(L.map fun q=>q.1).length),j<=t->sL (L.map fun q=>q.1)[t] s=false)/\Below w.heap.size w wr) (fun vi vj wr=>(intOf vj).toNat - (intOf vi).toNat)
 case atStart=>exact ⟨0,n,rfl,rfl,Nat.zero_le _,Nat.le_refl _,(show ∀ t (ht:t<_),t<0->_ from fun t ht h=>by omega),(show ∀ t (ht:t<_),n<=t->_ from fun t ht h=>by rw [List.length_map] at ht;have:=hn.out;omega),Below.refl _ _⟩
 case round=>
  obtain ⟨i,j,rfl,rfl,hij,hjn,H1,H2,hb⟩:=hrel
  by_cases hlt:i<j
  ·obtain ⟨h,hh⟩:∃ h,h=(i+j) / 2:=⟨_,rfl⟩
   have hhi:i<=h:=by omega
   have hhj:h<j:=by omega
   have hhn:h<n:=by omega
   have hlk:h<L.length:=by have:=hn.out;omega
   have HH:=Lib.hid hh
   obtain ⟨g,o,hAe,hg,hq⟩:=(hr.out.later hb).at (i:=h) (hlk)
   subst hAe
   skip
   obtain ⟨q,hqe⟩:∃ q,q=L[h]:=⟨_,rfl⟩
   rw [<- hqe] at hq
   have HQ:=Lib.hid hq;have HQe:=Lib.hid hqe
   clear hq hqe hh
   have hcc:=(hb.cell (p:=⟨c,0,none⟩) hclt).trans hc.out
   have hkey:(L.map fun q=>q.1)[h]'(by rw [List.length_map];exact hlk)=q.1:=by rw [List.getElem_map,<- HQe.out]
   obtain ⟨r,hre⟩:∃ r,r=Lib.compareBytes (q.1).data.toList s.data.toList:=⟨_,rfl⟩
   have hneg:=cmpB_neg (q.1) s
   have k2:=K1.out q wr hcc
   rw [<- hre] at k2 hneg
   have K2:=Lib.hid k2;have HKey:=Lib.hid hkey
   clear k2 hre hkey hcc
   have HQ2:=HQ.out.rg
   rw [HH.out] at HQ2
   have HQ3:=Lib.hid HQ2;clear HQ2
   go_wp2_with ((with_reducible refine load_rg rfl 45 _ rfl g (o+(i+j) / 2 * 4) rfl q.arr _ HQ3.out Tryz.underlying45 rfl (by kernel_rfl) ?_))
   refine K2.out.mono ?_;rintro e w2 ⟨rfl,hb2⟩
   have hB2:Below w.heap.size w w2:=hb.trans (hb2.mono hb.size)
   cases hC:sL (q.1) s
   ·rw [hC] at hneg
    have H3:Hid (∀ t (ht:t<(L.map fun q=>q.1).length),h<=t->sL (L.map fun q=>q.1)[t] s=false):=fun t ht h1=>by
     rcases Nat.eq_or_lt_of_le h1 with e | hlt'
     ·subst e;rw [HKey.out];exact hC
     ·rw [Bool.eq_false_iff];intro h2
      have h3:=sL_trans (hs.out h t (by rw [List.length_map];exact hlk) ht hlt') h2
      rw [HKey.out,hC] at h3;cases h3
    clear hC
    go_wp2_with fail
    go_round
    case rel=>exact ⟨i,h,rfl,by have:=HH.out;go_num,by omega,by omega,H1,H3,hB2⟩
    case measure=>simp [intOf];omega
   ·rw [hC] at hneg
    have H3:Hid (∀ t (ht:t<(L.map fun q=>q.1).length),t<h+1->sL (L.map fun q=>q.1)[t] s=true):=fun t ht h1=>by
     rcases Nat.eq_or_lt_of_le (Nat.le_of_lt_succ h1) with e | hlt'
     ·subst e;rw [HKey.out];exact hC
     ·have h2:=hs.out t h ht (by rw [List.length_map];exact hlk) hlt'
      rw [HKey.out] at h2
      exact sL_trans h2 hC
    clear hC
    go_wp2_with fail
    go_round
    case rel=>exact ⟨h+1,j,by have:=HH.out;go_num,rfl,by omega,by omega,H3,H2,hB2⟩
    case measure=>simp [intOf];omega
  ·have hij':i=j:=by omega
   subst hij'
   have hlb:lbK s (L.map fun q=>q.1)=i:=lbK_is (by rw [List.length_map];have:=hn.out;omega) H1.out H2.out
   have HLb:=Lib.hid hlb;clear hlb
   by_cases hlt2:i<n
   ·have hlk:i<L.length:=by have:=hn.out;omega
    have hlk':lbK s (L.map fun q=>q.1)<(L.map fun q=>q.1).length:=by rw [HLb.out,List.length_map];exact hlk
    have hhas:=hasK_at hs.out hlk'
    simp only [HLb.out,List.getElem_map] at hhas
    obtain ⟨g,o,hAe,hg,hq⟩:=(hr.out.later hb).at (i:=i) (hlk)
    subst hAe
    skip
    obtain ⟨q,hqe⟩:∃ q,q=L[i]:=⟨_,rfl⟩
    rw [<- hqe] at hq hhas
    have HQ:=Lib.hid hq
    clear hq hqe hlk'
    have hcc:=(hb.cell (p:=⟨c,0,none⟩) hclt).trans hc.out
    have hz:=cmpB_zero (q.1) s
    obtain ⟨r,hre⟩:∃ r,r=Lib.compareBytes (q.1).data.toList s.data.toList:=⟨_,rfl⟩
    have k2:=K1.out q wr hcc
    rw [<- hre] at k2 hz
    have K2:=Lib.hid k2
    have hpi:i=p:=(HP.out.trans HLb.out).symm
    have hfi:decide (r=0)=f:=by rw [hz,<- hhas];exact HF.out.symm
    subst hpi hfi
    clear k2 hre hcc hhas hz
    go_wp2_with (first | (with_reducible refine load_rg rfl 45 _ rfl g (o+i * 4) rfl q.arr _ HQ.out.rg Tryz.underlying45 rfl (by kernel_rfl) ?_))
    refine K2.out.mono ?_;rintro e w2 ⟨rfl,hb2⟩
    go_wp2_with fail
    exact bodyPost_ret (v:=.tuple #[.int .i64 i,.bool (decide (r=0))]) (by simp [results,Tryz.results136,go_sem];rfl) rfl ⟨rfl,hb.trans (hb2.mono hb.size)⟩
   ·have hin:i=n:=by omega
    have hhas:hasK s (L.map fun q=>q.1)=false:=hasK_end (by rw [HLb.out,List.length_map,hin];exact hn.out)
    have hpi:i=p:=(HP.out.trans HLb.out).symm
    have hfi:false=f:=(HF.out.trans hhas).symm
    subst hpi hfi
    go_wp2_with fail
    exact bodyPost_ret (v:=.tuple #[.int .i64 i,.bool false]) (by simp [results,Tryz.results136,go_sem]) rfl ⟨rfl,hb⟩


theorem findQ_any (A:Option Addr) (n cap:Nat)(L:List Qx)(s:ByteArray)(w:World)(hn:Hid (n=L.length))(hr:Hid (RdQ w A (L)))(hbig:n<=1000)(hs:Hid (AscK (L.map fun q=>q.1))) :
  Calls Tryz.prog 100 #[.slice A n cap,.string s,.func (.func 96) #[] #[]] w fun e w'=>e = .returned (.tuple #[.int .i64 (lbK s (L.map fun q=>q.1)),.bool (hasK s (L.map fun q=>q.1))])/\Below w.heap.size w w':=by
 have k1:=fun (c:Nat)(W:World)(h1:Hid (RdQ W A (L)))(h2:Hid (W.cell? ⟨c,0,none⟩=some (.func (.func 96) #[] #[])))=>searchQ_any A n cap L s c W hn h1 hbig hs h2
 obtain ⟨p,hp⟩:∃ p,p=lbK s (L.map fun q=>q.1):=⟨_,rfl⟩
 obtain ⟨f,hf⟩:∃ f,f=hasK s (L.map fun q=>q.1):=⟨_,rfl⟩
 rw [<- hp,<- hf] at k1 ⊢
 have K1:=Lib.hid k1;clear k1 hp hf hs
 go_enter Tryz.func100,Tryz.ntmps100
 go_wp2_with fail
 refine (K1.out w.heap.size _ (hr.out.later ((Below.refl _ _).alloc (Nat.le_refl _) _)) (by show World.cell? _ _=_;simp)).mono ?_;rintro e w2 ⟨rfl,hb2⟩
 go_wp2_with fail
 exact bodyPost_ret (v:=.tuple #[.int .i64 p,.bool f]) (by simp [results,Tryz.results100,go_sem]) rfl ⟨rfl,((Below.refl _ _).alloc (Nat.le_refl _) _).trans (hb2.mono (by simp))⟩

theorem nameM_any (q:Ml)(w:World):Calls Tryz.prog 94 #[.agg q.1.arr] w fun e w'=>e = .returned (.string q.1.nm)/\Below w.heap.size w w':=by
 obtain ⟨⟨a0,a1,a2,a3,a4,a5,a6,a7,a8⟩,a9⟩:=q
 go_enter Tryz.func94,Tryz.ntmps94
 go_wp2
 go_ret
 exact ⟨rfl,(Below.refl _ _).alloc (Nat.le_refl _) _⟩


theorem findM1_any (q:Ml)(s:ByteArray) (c:Nat)(w:World)(hc:w.cell? ⟨c,0,none⟩=some (.func (.func 94) #[] #[])) :
  Calls Tryz.prog 140 #[.agg q.1.arr,.string s,.pointer (some ⟨c,0,none⟩)] w fun e w'=>e = .returned (.int .i64 (Lib.compareBytes (q.1.nm).data.toList s.data.toList))/\Below w.heap.size w w':=by
 have k1:=fun W=>nameM_any q W
 have k2:=fun W=>compare_any (q.1.nm) s W
 obtain ⟨⟨a0,a1,a2,a3,a4,a5,a6,a7,a8⟩,a9⟩:=q
 simp only at k1 k2 ⊢
 have hlt:=World.block_lt_of_cell? w _ hc
 generalize Lib.compareBytes a0.data.toList s.data.toList=r at k2 ⊢
 have K1:=Lib.hid k1;have K2:=Lib.hid k2;clear k1 k2
 have hc':(w.alloc (.cells #[.string a0,.int .i64 a1,.int .i64 a2,.int .i64 a3,.slice a4 a5 a6,.bool a7,.int .i64 a8] 60)).cell? ⟨c,0,none⟩=some (.func (.func 94) #[] #[]):=Lib.cell?_alloc_some _ hc
 have HB:Hid (Bk (w.alloc (.cells #[.string a0,.int .i64 a1,.int .i64 a2,.int .i64 a3,.slice a4 a5 a6,.bool a7,.int .i64 a8] 60)) w.heap.size 60 #[.string a0,.int .i64 a1,.int .i64 a2,.int .i64 a3,.slice a4 a5 a6,.bool a7,.int .i64 a8]):=Bk.fresh _ _ _
 go_enter Tryz.func140,Tryz.ntmps140
 go_wp2_with ((with_reducible refine load_bk rfl 60 _ rfl w.heap.size 0 rfl 60 #[.string a0,.int .i64 a1,.int .i64 a2,.int .i64 a3,.slice a4 a5 a6,.bool a7,.int .i64 a8] #[.string a0,.int .i64 a1,.int .i64 a2,.int .i64 a3,.slice a4 a5 a6,.bool a7,.int .i64 a8] _ HB.out (Part.whole _) Tryz.underlying60 rfl (by kernel_rfl) ?_))
 refine (K1.out _).mono ?_;rintro e w1 ⟨rfl,hb1⟩
 go_wp2_with fail
 refine (K2.out _).mono ?_;rintro e w2 ⟨rfl,rfl⟩
 go_wp2_with fail
 go_ret
 exact ⟨rfl,((Below.refl _ _).alloc (Nat.le_refl _) _).trans (hb1.mono (by simp))⟩


theorem searchM_any (A:Option Addr) (n cap:Nat)(L:List Ml)(s:ByteArray) (c:Nat)(w:World)(hn:Hid (n=L.length))(hr:Hid (RdM w A (mcs L)))(hbig:n<=1000)(hs:Hid (AscK (L.map fun q=>q.1.nm)))(hc:Hid (w.cell? ⟨c,0,none⟩=some (.func (.func 94) #[] #[]))) :
  Calls Tryz.prog 139 #[.slice A n cap,.string s,.func (.func 140) #[] #[.pointer (some ⟨c,0,none⟩)]] w fun e w'=>e = .returned (.tuple #[.int .i64 (lbK s (L.map fun q=>q.1.nm)),.bool (hasK s (L.map fun q=>q.1.nm))])/\Below w.heap.size w w':=by
 have k1:=fun (q:Ml)(W:World)(h:W.cell? ⟨c,0,none⟩=some (.func (.func 94) #[] #[]))=>findM1_any q s c W h
 obtain ⟨p,hp⟩:∃ p,p=lbK s (L.map fun q=>q.1.nm):=⟨_,rfl⟩
 obtain ⟨f,hf⟩:∃ f,f=hasK s (L.map fun q=>q.1.nm):=⟨_,rfl⟩
 rw [<- hp,<- hf]
 have HP:=Lib.hid hp;have HF:=Lib.hid hf
 have K1:=Lib.hid k1;clear k1 hp hf
 have hclt:=World.block_lt_of_cell? w _ hc.out
 go_enter Tryz.func139,Tryz.ntmps139
 go_wp2_with fail
 go_loopw [9,10] (fun vi vj wr=>∃ i j:Nat,vi = .int .i64 i/\vj = .int .i64 j/\i<=j/\j<=n/\Hid (∀ t (ht:t<(L.map fun q=>q.1.nm).length),t<i->sL (L.map fun q=>q.1.nm)[t] s=true)/\Hid (∀ t (ht:t<(L.map fun q=>q.1.nm).length),j<=t->sL (L.map fun q=>q.1.nm)[t] s=false)/\Below w.heap.size w wr) (fun vi vj wr=>(intOf vj).toNat - (intOf vi).toNat)
 case atStart=>exact ⟨0,n,rfl,rfl,Nat.zero_le _,Nat.le_refl _,(show ∀ t (ht:t<_),t<0->_ from fun t ht h=>by omega),(show ∀ t (ht:t<_),n<=t->_ from fun t ht h=>by rw [List.length_map] at ht;have:=hn.out;omega),Below.refl _ _⟩
 case round=>
  obtain ⟨i,j,rfl,rfl,hij,hjn,H1,H2,hb⟩:=hrel
  by_cases hlt:i<j
  ·obtain ⟨h,hh⟩:∃ h,h=(i+j) / 2:=⟨_,rfl⟩
   have hhi:i<=h:=by omega
   have hhj:h<j:=by omega
   have hhn:h<n:=by omega
   have hlk:h<L.length:=by have:=hn.out;omega
   have HH:=Lib.hid hh
   obtain ⟨g,o,hAe,hg,hq⟩:=(hr.out.later hb).at (i:=h) (by rw [List.length_map];exact hlk)
   subst hAe
   rw [mcs_at (by assumption)] at hq
   obtain ⟨q,hqe⟩:∃ q,q=L[h]:=⟨_,rfl⟩
   rw [<- hqe] at hq
   have HQ:=Lib.hid hq;have HQe:=Lib.hid hqe
   clear hq hqe hh
   have hcc:=(hb.cell (p:=⟨c,0,none⟩) hclt).trans hc.out
   have hkey:(L.map fun q=>q.1.nm)[h]'(by rw [List.length_map];exact hlk)=q.1.nm:=by rw [List.getElem_map,<- HQe.out]
   obtain ⟨r,hre⟩:∃ r,r=Lib.compareBytes (q.1.nm).data.toList s.data.toList:=⟨_,rfl⟩
   have hneg:=cmpB_neg (q.1.nm) s
   have k2:=K1.out q wr hcc
   rw [<- hre] at k2 hneg
   have K2:=Lib.hid k2;have HKey:=Lib.hid hkey
   clear k2 hre hkey hcc
   have HQ2:=HQ.out.rg
   rw [HH.out] at HQ2
   have HQ3:=Lib.hid HQ2;clear HQ2
   go_wp2_with ((with_reducible refine load_rg rfl 60 _ rfl g (o+(i+j) / 2 * 7) rfl q.1.arr _ HQ3.out Tryz.underlying60 rfl (by kernel_rfl) ?_))
   refine K2.out.mono ?_;rintro e w2 ⟨rfl,hb2⟩
   have hB2:Below w.heap.size w w2:=hb.trans (hb2.mono hb.size)
   cases hC:sL (q.1.nm) s
   ·rw [hC] at hneg
    have H3:Hid (∀ t (ht:t<(L.map fun q=>q.1.nm).length),h<=t->sL (L.map fun q=>q.1.nm)[t] s=false):=fun t ht h1=>by
     rcases Nat.eq_or_lt_of_le h1 with e | hlt'
     ·subst e;rw [HKey.out];exact hC
     ·rw [Bool.eq_false_iff];intro h2
      have h3:=sL_trans (hs.out h t (by rw [List.length_map];exact hlk) ht hlt') h2
      rw [HKey.out,hC] at h3;cases h3
    clear hC
    go_wp2_with fail
    go_round
    case rel=>exact ⟨i,h,rfl,by have:=HH.out;go_num,by omega,by omega,H1,H3,hB2⟩
    case measure=>simp [intOf];omega
   ·rw [hC] at hneg
    have H3:Hid (∀ t (ht:t<(L.map fun q=>q.1.nm).length),t<h+1->sL (L.map fun q=>q.1.nm)[t] s=true):=fun t ht h1=>by
     rcases Nat.eq_or_lt_of_le (Nat.le_of_lt_succ h1) with e | hlt'
     ·subst e;rw [HKey.out];exact hC
     ·have h2:=hs.out t h ht (by rw [List.length_map];exact hlk) hlt'
      rw [HKey.out] at h2
      exact sL_trans h2 hC
    clear hC
    go_wp2_with fail
    go_round
    case rel=>exact ⟨h+1,j,by have:=HH.out;go_num,rfl,by omega,by omega,H3,H2,hB2⟩
    case measure=>simp [intOf];omega
  ·have hij':i=j:=by omega
   subst hij'
   have hlb:lbK s (L.map fun q=>q.1.nm)=i:=lbK_is (by rw [List.length_map];have:=hn.out;omega) H1.out H2.out
   have HLb:=Lib.hid hlb;clear hlb
   by_cases hlt2:i<n
   ·have hlk:i<L.length:=by have:=hn.out;omega
    have hlk':lbK s (L.map fun q=>q.1.nm)<(L.map fun q=>q.1.nm).length:=by rw [HLb.out,List.length_map];exact hlk
    have hhas:=hasK_at hs.out hlk'
    simp only [HLb.out,List.getElem_map] at hhas
    obtain ⟨g,o,hAe,hg,hq⟩:=(hr.out.later hb).at (i:=i) (by rw [List.length_map];exact hlk)
    subst hAe
    rw [mcs_at (by assumption)] at hq
    obtain ⟨q,hqe⟩:∃ q,q=L[i]:=⟨_,rfl⟩
    rw [<- hqe] at hq hhas
    have HQ:=Lib.hid hq
    clear hq hqe hlk'
    have hcc:=(hb.cell (p:=⟨c,0,none⟩) hclt).trans hc.out
    have hz:=cmpB_zero (q.1.nm) s
    obtain ⟨r,hre⟩:∃ r,r=Lib.compareBytes (q.1.nm).data.toList s.data.toList:=⟨_,rfl⟩
    have k2:=K1.out q wr hcc
    rw [<- hre] at k2 hz
    have K2:=Lib.hid k2
    have hpi:i=p:=(HP.out.trans HLb.out).symm
    have hfi:decide (r=0)=f:=by rw [hz,<- hhas];exact HF.out.symm
    subst hpi hfi
    clear k2 hre hcc hhas hz
    go_wp2_with (first | (with_reducible refine load_rg rfl 60 _ rfl g (o+i * 7) rfl q.1.arr _ HQ.out.rg Tryz.underlying60 rfl (by kernel_rfl) ?_))
    refine K2.out.mono ?_;rintro e w2 ⟨rfl,hb2⟩
    go_wp2_with fail
    exact bodyPost_ret (v:=.tuple #[.int .i64 i,.bool (decide (r=0))]) (by simp [results,Tryz.results139,go_sem];rfl) rfl ⟨rfl,hb.trans (hb2.mono hb.size)⟩
   ·have hin:i=n:=by omega
    have hhas:hasK s (L.map fun q=>q.1.nm)=false:=hasK_end (by rw [HLb.out,List.length_map,hin];exact hn.out)
    have hpi:i=p:=(HP.out.trans HLb.out).symm
    have hfi:false=f:=(HF.out.trans hhas).symm
    subst hpi hfi
    go_wp2_with fail
    exact bodyPost_ret (v:=.tuple #[.int .i64 i,.bool false]) (by simp [results,Tryz.results139,go_sem]) rfl ⟨rfl,hb⟩


theorem findM_any (A:Option Addr) (n cap:Nat)(L:List Ml)(s:ByteArray)(w:World)(hn:Hid (n=L.length))(hr:Hid (RdM w A (mcs L)))(hbig:n<=1000)(hs:Hid (AscK (L.map fun q=>q.1.nm))) :
  Calls Tryz.prog 102 #[.slice A n cap,.string s,.func (.func 94) #[] #[]] w fun e w'=>e = .returned (.tuple #[.int .i64 (lbK s (L.map fun q=>q.1.nm)),.bool (hasK s (L.map fun q=>q.1.nm))])/\Below w.heap.size w w':=by
 have k1:=fun (c:Nat)(W:World)(h1:Hid (RdM W A (mcs L)))(h2:Hid (W.cell? ⟨c,0,none⟩=some (.func (.func 94) #[] #[])))=>searchM_any A n cap L s c W hn h1 hbig hs h2
 obtain ⟨p,hp⟩:∃ p,p=lbK s (L.map fun q=>q.1.nm):=⟨_,rfl⟩
 obtain ⟨f,hf⟩:∃ f,f=hasK s (L.map fun q=>q.1.nm):=⟨_,rfl⟩
 rw [<- hp,<- hf] at k1 ⊢
 have K1:=Lib.hid k1;clear k1 hp hf hs
 go_enter Tryz.func102,Tryz.ntmps102
 go_wp2_with fail
 refine (K1.out w.heap.size _ (hr.out.later ((Below.refl _ _).alloc (Nat.le_refl _) _)) (by show World.cell? _ _=_;simp)).mono ?_;rintro e w2 ⟨rfl,hb2⟩
 go_wp2_with fail
 exact bodyPost_ret (v:=.tuple #[.int .i64 p,.bool f]) (by simp [results,Tryz.results102,go_sem]) rfl ⟨rfl,((Below.refl _ _).alloc (Nat.le_refl _) _).trans (hb2.mono (by simp))⟩
end
section
open Go.RowKit


theorem insertQ_end (base:Nat)(v:Value)(L:List Qx)(q:Qx)(ad:Addr) (c n:Nat)(w:World)(hn:Hid (n=L.length))(hbig:n<=1000)(hO:Hid (OwnK w base 45 4 v (cellsQ L)))(hr:Hid (RdK w 4 (some ad) (cellsQ [q])))(hb:base<=w.heap.size) :
  Calls Tryz.prog 128 #[v,.int .i64 n,.slice (some ad) 1 c] w fun e w'=>(∃ v',e = .returned v' /\ OwnK w' base 45 4 v' (cellsQ (L ++ [q]))/\(v'.ownBlock=v.ownBlock ∨ v'.ownBlock=some w.heap.size))/\w.grownBy w' v.ownBlock:=by
 obtain ⟨A,cap,hv,_,hc1,hc2,_⟩:=hO.out.sl
 rw [cellsQ_length] at hv hc1
 have hnl:=hn.out
 rw [<- hnl] at hv hc1
 subst hv
 have hc3:cap<=9223372036854775807:=by unfold maxLen at hc2;omega
 clear hnl hc2
 have HE:Hid ((cellsQ L).length=n):=by show _=_;rw [cellsQ_length];exact hn.out.symm
 have HA:Hid (cellsQ (L ++ [q])=cellsQ L ++ cellsQ [q]):=cellsQ_append _ _
 go_enter Tryz.func128,Tryz.ntmps128
 go_wp2_with (first | ((with_reducible refine append_ka _ rfl (.tmp 23) (.tmp 24) 28 rfl base 45 _ 4 40 Tryz.underlying28 infoQ15 rfl (by omega) (.slice A n cap) (cellsQ L) rfl hO.out ad c 1 (cellsQ [q]) rfl hr.out (cellsQ_k _) (cellsQ_one _) (by simp [cellsQ]) (by have:=HE.out;simp only [cellsQ_length,List.length_singleton,maxLen] at *;omega) (by have:=HE.out;simp only [cellsQ_length,List.length_singleton] at *;omega) hb ?_);intro v' w1 hown hgrow hat))
 all_goals go_ret
 all_goals exact ⟨⟨v',rfl,by rw [HA.out];exact hown,by cases A <;> exact hat⟩,by cases A <;> exact hgrow⟩


theorem insertM_end (base:Nat)(v:Value)(L:List Mc)(q:Mc)(ad:Addr) (c n:Nat)(w:World)(hn:Hid (n=L.length))(hbig:n<=1000)(hO:Hid (OwnK w base 60 7 v (cellsM L)))(hr:Hid (RdK w 7 (some ad) (cellsM [q])))(hb:base<=w.heap.size) :
  Calls Tryz.prog 124 #[v,.int .i64 n,.slice (some ad) 1 c] w fun e w'=>(∃ v',e = .returned v' /\ OwnK w' base 60 7 v' (cellsM (L ++ [q]))/\(v'.ownBlock=v.ownBlock ∨ v'.ownBlock=some w.heap.size))/\w.grownBy w' v.ownBlock:=by
 obtain ⟨A,cap,hv,_,hc1,hc2,_⟩:=hO.out.sl
 rw [cellsM_length] at hv hc1
 have hnl:=hn.out
 rw [<- hnl] at hv hc1
 subst hv
 have hc3:cap<=9223372036854775807:=by unfold maxLen at hc2;omega
 clear hnl hc2
 have HE:Hid ((cellsM L).length=n):=by show _=_;rw [cellsM_length];exact hn.out.symm
 have HA:Hid (cellsM (L ++ [q])=cellsM L ++ cellsM [q]):=cellsM_append _ _
 go_enter Tryz.func124,Tryz.ntmps124
 go_wp2_with (first | ((with_reducible refine append_ka _ rfl (.tmp 23) (.tmp 24) 27 rfl base 60 _ 7 80 Tryz.underlying27 infoM15 rfl (by omega) (.slice A n cap) (cellsM L) rfl hO.out ad c 1 (cellsM [q]) rfl hr.out (cellsM_k _) (cellsM_one _) (by simp [cellsM]) (by have:=HE.out;simp only [cellsM_length,List.length_singleton,maxLen] at *;omega) (by have:=HE.out;simp only [cellsM_length,List.length_singleton] at *;omega) hb ?_);intro v' w1 hown hgrow hat))
 all_goals go_ret
 all_goals exact ⟨⟨v',rfl,by rw [HA.out];exact hown,by cases A <;> exact hat⟩,by cases A <;> exact hgrow⟩
end
section
open Go.RowKit
def Went (w w':World) (b g:Nat)(vM vQ vJ:Value)(S T:Sg):Prop:=
 ∃ lst' vM' vQ' vJ' S',Gs w' b g lst' vM' vQ' vJ' S' /\ S'.bare=T.bare/\GrP (blkG g vM vQ vJ S) w w' /\ ∀ k,blkG g vM' vQ' vJ' S' k->blkG g vM vQ vJ S k ∨ w.heap.size<=k
section
variable {w w':World}{b g:Nat}{lst:Int}{vM vQ vJ:Value}{S T:Sg}
theorem Went.same (h:Gs w b g lst vM vQ vJ S)(hb:Below w.heap.size w w'):Went w w' b g vM vQ vJ S S:=
 ⟨lst,vM,vQ,vJ,S,h.below hb,rfl,GrP.ofBelow hb,fun k hk=>.inl hk⟩
end
section
variable {o:Oper}{a:Act}{w:World}{K:Act->World->Prop}{Q:Exit->Act->World->Prop}
theorem qone_op (t:Tmp)(q0:ByteArray) (q1 q2 q3:Int)(ho:o.op = .buildSlice 28 1 #[(0,.tmp t)])(hx:a.tmps[t]?.getD undef = .agg #[.string q0,.int .i64 q1,.int .i64 q2,.int .i64 q3])(h:∀ g w',g=w.heap.size->w'.heap.size=w.heap.size+1->Bk w' g 45 #[.string q0,.int .i64 q1,.int .i64 q2,.int .i64 q3]->Below w.heap.size w w' -> K (a.put o.dst (.slice (some ⟨g,0,none⟩) 1 1)) w'):o.wp Tryz.prog a w K Q:=by
 unfold Oper.wp execOp
 simp only [ho]
 go_simp
 exact h _ _ rfl (by simp) (Bk.fresh w _ _) ((Below.refl _ _).alloc (Nat.le_refl _) _)
end
theorem OwnS.rdQ {w:World}{b:Nat}{vM vJ:Value}{S:Sg}{B:Option Addr}{K0 cB:Nat}(h:OwnS w b vM (.slice B K0 cB) vJ S):RdQ w B S.Q:=by
 obtain ⟨A,c,hv,hr,_⟩:=h.Q.sl
 injection hv with h1;subst h1;exact hr
theorem qrd {w:World}{g:Nat}{t:TypeId}{q:Qx}(h:Bk w g t #[.string q.1,.int .i64 q.2.1,.int .i64 q.2.2.1,.int .i64 q.2.2.2]):RdK w 4 (some ⟨g,0,none⟩) (cellsQ [q]):=fun i x hx=>by
 match i,hx with
 | 0,hx=>simp [cellsQ] at hx;subst hx;exact ⟨g,0,rfl,h.range (Part.whole _)⟩
 | i+1,hx=>simp [cellsQ] at hx
theorem OwnS.lenQ {w:World}{b:Nat}{vM vJ:Value}{S:Sg}{B:Option Addr}{K0 cB:Nat}(h:OwnS w b vM (.slice B K0 cB) vJ S):K0=S.Q.length:=by
 obtain ⟨A,c,hv,hr,_⟩:=h.Q.sl
 injection hv with h1 h2;rw [h2,cellsQ_length]
def insQ (q:Qx)(Q:List Qx):List Qx:=Q.take (lbK q.1 (Q.map fun q=>q.1)) ++ q :: Q.drop (lbK q.1 (Q.map fun q=>q.1))
def addQ (S:Sg)(q:Qx):Sg × An:=
 if hasK q.1 (S.Q.map fun q=>q.1) then (S,8,[]) else if 8<=S.Q.length then (S,10,[]) else ({ S with Q:=insQ q S.Q },0,[])
def InsQ (b:Nat)(vQ:Value)(Q:List Qx)(q:Qx):Prop:=∀ (ad:Addr) (c:Nat)(w:World),Hid (OwnK w b 45 4 vQ (cellsQ Q))->Hid (RdK w 4 (some ad) (cellsQ [q]))->b<=w.heap.size->ad.block+1=w.heap.size->(∃ t cs,Bk w ad.block t cs)->(∀ k,vQ.ownBlock=some k->ad.block ≠ k) ->
 Calls Tryz.prog 128 #[vQ,.int .i64 (lbK q.1 (Q.map fun q=>q.1)),.slice (some ad) 1 c] w fun e w'=>(∃ v',e = .returned v' /\ OwnK w' b 45 4 v' (cellsQ (insQ q Q))/\(v'.ownBlock=vQ.ownBlock ∨ ∀ k,v'.ownBlock=some k->w.heap.size<=k))/\GrP (fun k=>vQ.ownBlock=some k) w w'


theorem addQueue_any (b g:Nat) (lst:Int)(vM vQ vJ:Value)(S:Sg)(q:Qx)(w:World)(hG:Hid (Gs w b g lst vM vQ vJ S))(hM:Hid (Sm S))(hA:Hid (AscK (S.Q.map fun q=>q.1)))(hq:q.1.size<=140737488351232)(hI:Hid (hasK q.1 (S.Q.map fun q=>q.1)=false->InsQ b vQ S.Q q)) :
  Calls Tryz.prog 85 #[.pointer (some ⟨g,0,none⟩),.agg q.arr] w fun e w'=>e = .returned (.int .i64 (addQ S q).2.1)/\Went w w' b g vM vQ vJ S (addQ S q).1:=by
 obtain ⟨⟨ck,nx,A,N,cA,B,K0,cB,C,n,cC⟩,hva,hvr⟩:=hG.out.own.rd
 have hv1:.slice A N cA=vM:=congrArg (fun a:Array Value=>a.getD 2 undef) hva
 have hv2:.slice B K0 cB=vQ:=congrArg (fun a:Array Value=>a.getD 3 undef) hva
 have hv3:.slice C n cC=vJ:=congrArg (fun a:Array Value=>a.getD 4 undef) hva
 have e1:ck=S.ck:=hvr.ck
 have e2:nx=S.nx:=hvr.nx
 subst hv1 hv2 hv3 e1 e2
 clear hva hvr
 have hKl:K0=S.Q.length:=hG.out.own.lenQ
 have hKb:K0<=1000:=by rw [hKl];exact hM.out.Q
 have kf:=fun (W:World)(h:RdQ W B S.Q)=>findQ_any B K0 cB S.Q q.1 W hKl h hKb hA
 obtain ⟨p,hp⟩:∃ p,p=lbK q.1 (S.Q.map fun q=>q.1):=⟨_,rfl⟩
 obtain ⟨f,hf⟩:∃ f,f=hasK q.1 (S.Q.map fun q=>q.1):=⟨_,rfl⟩
 rw [<- hp,<- hf] at kf
 obtain ⟨r,hr⟩:∃ r,r=addQ S q:=⟨_,rfl⟩
 have hrr:=hr
 unfold addQ at hrr
 rw [<- hf,<- hKl] at hrr
 rw [<- hr]
 have hi:=hI.out
 unfold InsQ at hi
 rw [<- hp,<- hf] at hi
 have HI0:=Lib.hid hi;clear hi hI
 have KF:=Lib.hid kf;have HR:=Lib.hid hrr;have HP:=Lib.hid hp;have HKl:=Lib.hid hKl
 clear kf hrr hr hp hf hKl
 obtain ⟨q0,q1,q2,q3⟩:=q
 obtain ⟨W0,hW0⟩:∃ W0,W0=w.alloc (.cells #[.string q0,.int .i64 q1,.int .i64 q2,.int .i64 q3] 45):=⟨_,rfl⟩
 have HG0:Hid (Gs W0 b g lst (.slice A N cA) (.slice B K0 cB) (.slice C n cC) S):=by rw [hW0];exact hG.out.below ((Below.refl _ _).alloc (Nat.le_refl _) _)
 have HQ0:Hid (Bk W0 w.heap.size 45 #[.string q0,.int .i64 q1,.int .i64 q2,.int .i64 q3]):=by rw [hW0];exact Bk.fresh _ _ _
 have hB0:Below w.heap.size w W0:=by rw [hW0];exact (Below.refl _ _).alloc (Nat.le_refl _) _
 go_enter Tryz.func85,Tryz.ntmps85
 go_wp2_with fail
 rw [<- hW0]
 clear hW0
 refine wp_region_held_drew (S:=fun W=>Gs W b g lst (.slice A N cA) (.slice B K0 cB) (.slice C n cC) S/\Bk W w.heap.size 45 #[.string q0,.int .i64 q1,.int .i64 q2,.int .i64 q3]/\Below w.heap.size w W) (by kernel_rfl) (⟨HG0.out.below (Below.drew (Below.refl _ _)),HQ0.out.drewB,Below.drew hB0⟩) (fun hS0=>?_)
 refine wU (i:=0) (v:=?_) rfl ?_ hS0 ?_
 rotate_left
 ·intro W _;go_simp;try with_reducible rfl
 try simp only [Act.put,tD,tB,tA,tE,tF]
 refine wU (i:=1) (v:=?_) rfl ?_ hS0 ?_
 rotate_left
 ·intro W _;go_simp;try with_reducible rfl
 try simp only [Act.put,tZ]
 refine wU (i:=2) (v:=?_) rfl ?_ hS0 ?_
 rotate_left
 ·intro W _;go_simp;try with_reducible rfl
 try simp only [Act.put,tZ]
 refine wU (i:=3) (v:=?_) rfl ?_ hS0 ?_
 rotate_left
 ·intro W hSW;have hx:=hSW.1.bk.cellAt 3;go_simp;try with_reducible rfl
 try simp only [Act.put,tZ]
 refine wU (i:=4) (v:=?_) rfl ?_ hS0 ?_
 rotate_left
 ·intro W _;go_simp;try with_reducible rfl
 try simp only [Act.put,tZ]
 refine wU (i:=5) (v:=?_) rfl ?_ hS0 ?_
 rotate_left
 ·intro W hSW;have hx:=hSW.2.1.cellAt 0;go_simp;try with_reducible rfl
 try simp only [Act.put,tZ]
 refine wpAnyH_ready (rs:=[6]) (by kernel_rfl) (by simp) ?_
 refine AllReadyH.cons rfl (fun K hK=>?_) AllReadyH.nil
 go_simp
 refine (KF.out _ (hS0.1.own.rdQ)).mono ?_
 rintro e w1 ⟨rfl,hb1⟩
 go_simp
 refine hK.out _ _ (⟨hS0.1.below hb1,hS0.2.1.later hb1,hS0.2.2.trans (hb1.mono hS0.2.2.size)⟩) (fun hS1=>?_)
 clear hK K
 try simp only [Act.put,tZ]
 refine wU (i:=7) (v:=?_) rfl ?_ hS1 ?_
 rotate_left
 ·intro W _;go_simp;try with_reducible rfl
 try simp only [Act.put,tZ]
 refine wU (i:=8) (v:=?_) rfl ?_ hS1 ?_
 rotate_left
 ·intro W _;go_simp;try with_reducible rfl
 try simp only [Act.put,tZ]
 refine wU (i:=10) (v:=?_) rfl ?_ hS1 ?_
 rotate_left
 ·intro W _;go_simp;try with_reducible rfl
 try simp only [Act.put,tZ]
 refine wU (i:=9) (v:=?_) rfl ?_ hS1 ?_
 rotate_left
 ·intro W _;go_simp;try with_reducible rfl
 try simp only [Act.put,tZ]
 refine wU (i:=11) (v:=?_) rfl ?_ hS1 ?_
 rotate_left
 ·intro W _;go_simp;try with_reducible rfl
 try simp only [Act.put,tZ]
 refine wpAnyH_done (by kernel_rfl) ?_ _
 obtain ⟨hG1,hQ1,hbb⟩:=hS1
 have HG1:=Lib.hid hG1;have HQ1:=Lib.hid hQ1
 have c3:w1.cell? ⟨g,3,none⟩=some (.slice B K0 cB):=hG1.bk.cellAt 3
 clear hS0 hG1 hQ1 hb1 HG0 HQ0 hB0 KF
 cases f
 case true=>
  have hr:(S,8,[])=r:=HR.out.symm
  subst hr
  go_wp2_with fail
  go_ret
  exact ⟨rfl,Went.same hG.out hbb⟩
 case false=>
  by_cases h8:8<=K0
  ·have hr:(S,10,[])=r:=by rw [HR.out,if_neg (by simp),if_pos h8]
   subst hr
   have d8:decide (8<=(K0:Int))=true:=by rw [decide_eq_true_eq];omega
   go_wp2_with fail
   go_ret
   exact ⟨rfl,Went.same hG.out hbb⟩
  ·have hr:({ S with Q:=insQ (q0,q1,q2,q3) S.Q },0,[])=r:=by rw [HR.out,if_neg (by simp),if_neg h8]
   subst hr
   have d8:decide (8<=(K0:Int))=false:=by rw [decide_eq_false_iff_not];omega
   clear HR
   have HI:=Lib.hid (HI0.out rfl)
   go_wp2_with fail
   refine wp_region_E (S:=fun W=>Bk W g 73 #[.int .i64 S.ck,.int .i64 lst,.slice A N cA,.slice B K0 cB,.slice C n cC]/\Bk W w.heap.size 45 #[.string q0,.int .i64 q1,.int .i64 q2,.int .i64 q3]/\GrP (fun k=>(Value.slice B K0 cB).ownBlock=some k) w1 W) 11 (by kernel_rfl) (⟨(HG1.out.bk).drewB,HQ1.out.drewB,GrP.ofBelow (Below.drew (Below.refl _ _))⟩) (fun hS0=>?_)
   refine wpAnyE_take (i:=0) (v:=?_) rfl (by kernel_rfl) (by kernel_rfl) (by kernel_rfl) (by kernel_rfl) (by kernel_rfl) (fun _ _ _ h=>h) (Or.inl ⟨by rfl,?_⟩) hS0 ?_
   rotate_left
   ·intro W _;go_simp;try with_reducible rfl
   try simp only [Act.put,tD,tB,tA,tE,tF]
   refine wpAnyE_take (i:=1) (v:=?_) rfl (by kernel_rfl) (by kernel_rfl) (by kernel_rfl) (by kernel_rfl) (by kernel_rfl) (fun _ _ _ h=>h) (Or.inl ⟨by rfl,?_⟩) hS0 ?_
   rotate_left
   ·intro W _;go_simp;try with_reducible rfl
   try simp only [Act.put,tZ]
   refine wpAnyE_take (i:=2) (v:=?_) rfl (by kernel_rfl) (by kernel_rfl) (by kernel_rfl) (by kernel_rfl) (by kernel_rfl) (fun _ _ _ h=>h) (Or.inl ⟨by rfl,?_⟩) hS0 ?_
   rotate_left
   ·intro W _;go_simp;try with_reducible rfl
   try simp only [Act.put,tZ]
   refine wpAnyE_take (i:=3) (v:=?_) rfl (by kernel_rfl) (by kernel_rfl) (by kernel_rfl) (by kernel_rfl) (by kernel_rfl) (fun _ _ _ h=>h) (Or.inl ⟨by rfl,?_⟩) hS0 ?_
   rotate_left
   ·intro W _;go_simp;try with_reducible rfl
   try simp only [Act.put,tZ]
   refine wpAnyE_take (i:=4) (v:=?_) rfl (by kernel_rfl) (by kernel_rfl) (by kernel_rfl) (by kernel_rfl) (by kernel_rfl) (fun _ _ _ h=>h) (Or.inl ⟨by rfl,?_⟩) hS0 ?_
   rotate_left
   ·intro W hSW;have hx:=hSW.1.cellAt 3;go_simp;try with_reducible rfl
   try simp only [Act.put,tZ]
   refine wpAnyE_take (i:=5) (v:=?_) rfl (by kernel_rfl) (by kernel_rfl) (by kernel_rfl) (by kernel_rfl) (by kernel_rfl) (fun _ _ _ h=>h) (Or.inl ⟨by rfl,?_⟩) hS0 ?_
   rotate_left
   ·intro W _;go_simp;try with_reducible rfl
   try simp only [Act.put,tZ]
   refine wpAnyE_take (i:=6) (v:=.agg #[.string q0,.int .i64 q1,.int .i64 q2,.int .i64 q3]) rfl (by kernel_rfl) (by kernel_rfl) (by kernel_rfl) (by kernel_rfl) (by kernel_rfl) (fun _ _ _ h=>h) (yields_bk (by rfl) 45 _ rfl w.heap.size 0 rfl 45 #[.string q0,.int .i64 q1,.int .i64 q2,.int .i64 q3] #[.string q0,.int .i64 q1,.int .i64 q2,.int .i64 q3] _ (fun W hW=>hW.2.1) (Part.whole _) Tryz.underlying45 rfl (by kernel_rfl)) hS0 ?_
   try simp only [Act.put,tZ]
   refine wpAnyE_ready (rs:=[7]) (by kernel_rfl) (by simp) ?_
   refine AllReadyE.cons rfl (fun K hK=>?_) AllReadyE.nil
   rw [if_pos (by rfl)]
   refine qone_op 32 q0 q1 q2 q3 rfl rfl ?_
   intro g2 w2 hg2 hsz2x hB2 hb2
   refine hK.out _ _ (⟨hS0.1.later hb2,hS0.2.1.later hb2,hS0.2.2.trans (GrP.ofBelow hb2)⟩) (fun hS1=>?_)
   clear hK K
   try simp only [Act.put,tZ]
   have HS1:=Lib.hid hS1;have HB2:=Lib.hid hB2;have HSZ2:Hid (g2+1=w2.heap.size):=(by show _=_;rw [hg2,hsz2x]);have HGE2:Hid (w1.heap.size<=g2):=(by show w1.heap.size<=g2;rw [hg2];exact Nat.le_refl _);have HBL2:Hid (Below w1.heap.size w1 w2):=(show Below w1.heap.size w1 w1.drew from Below.drew (Below.refl _ _)).trans hb2;have HQ2:Hid (OwnK w2 b 45 4 (.slice B K0 cB) (cellsQ S.Q)):=HG1.out.own.Q.below HBL2.out;clear hB2 hg2 hsz2x hb2 hS1 hS0
   refine wpAnyE_ready (rs:=[8]) (by kernel_rfl) (by simp) ?_
   refine AllReadyE.cons rfl (fun K hK=>?_) AllReadyE.nil
   go_simp
   refine (HI.out ⟨g2,0,none⟩ 1 w2 HQ2.out (qrd (q:=(q0,q1,q2,q3)) HB2.out) (by have:=HG1.out.le;have:=HS1.out.1.here;omega) HSZ2.out ⟨_,_,HB2.out⟩ (fun k hk=>by have h1:=HGE2.out;have h2:=HG1.out.own.Q.lt hk;show g2 ≠ k;omega)).mono ?_
   rintro e w3 ⟨⟨v3,rfl,hO3,hat3⟩,hgr3⟩
   obtain ⟨aQ,xQ,hv3,_,_,_,_⟩:=hO3.sl
   rw [cellsQ_length] at hv3
   generalize (insQ (q0,q1,q2,q3) S.Q).length=nQ at hv3
   subst hv3
   have HO3:=Lib.hid hO3;have HAT3:=Lib.hid hat3;have HGR3:=Lib.hid hgr3;clear hO3 hat3 hgr3
   go_simp
   refine hK.out _ _ (⟨HS1.out.1.grp HGR3.out (fun e=>(HG1.out.ne _ (.inr (.inl e))) rfl),HS1.out.2.1.grp HGR3.out (fun e=>by have:=(hG.out.own.blk (.inr (.inl e))).2;omega),HS1.out.2.2.trans HGR3.out⟩) (fun hS2=>?_)
   clear hK K
   try simp only [Act.put,tZ]
   have HB3:=Lib.hid hS2.1;have HGW:=Lib.hid hS2.2.2
   refine wpAnyE_ready (rs:=[9]) (by kernel_rfl) (by simp) ?_
   refine AllReadyE.cons rfl (fun K hK=>?_) AllReadyE.nil
   go_simp
   refine hK.out _ _ (hS2) (fun hS3=>?_)
   clear hK K
   try simp only [Act.put,tZ]
   refine wpAnyE_take (i:=10) (v:=?_) rfl (by kernel_rfl) (by kernel_rfl) (by kernel_rfl) (by kernel_rfl) (by kernel_rfl) (fun _ _ _ h=>h) (Or.inl ⟨by rfl,?_⟩) hS3 ?_
   rotate_left
   ·intro W _;go_simp;try with_reducible rfl
   try simp only [Act.put,tZ]
   have cst:w3.cell? ⟨g,3,none⟩=some (.slice B K0 cB):=HB3.out.cellAt 3;have fst:w3.frozen? ⟨g,3,none⟩=false:=HB3.out.free 3;clear hS2 hS3
   refine wpAnyE_ready (rs:=[11]) (by kernel_rfl) (by simp) ?_
   refine AllReadyE.last rfl (by kernel_rfl) (fun K hK=>?_) AllReadyE.nil
   go_simp
   refine hK.out _ _ ?_
   clear hK K
   try simp only [Act.put,tZ]
   refine wpAny_of_held (S:=fun _=>True) _ _ _ _ ?_
   refine wpAnyH_done (by kernel_rfl) ?_ _
   have hBK:Bk (w3.setCell ⟨g,3,none⟩ (.slice aQ nQ xQ)) g 73 #[.int .i64 S.ck,.int .i64 lst,.slice A N cA,.slice aQ nQ xQ,.slice C n cC]:=HB3.out.put 3 _
   have hG9:GrP (fun k=>(Value.slice B K0 cB).ownBlock=some k ∨ k=g) w1 (w3.setCell ⟨g,3,none⟩ (.slice aQ nQ xQ)):=(HGW.out.wide (fun _ _ h=>.inl h)).set (.inr rfl) _
   have hv9:∀ k,(Value.slice aQ nQ xQ).ownBlock=some k->k ≠ g:=fun k hk=>by
    rcases HAT3.out with e | e
    ·exact HG1.out.ne k (.inr (.inl (by rw [<- e];exact hk)))
    ·have:=e k hk;have:=HS1.out.1.here;omega
   have hQ9:OwnK (w3.setCell ⟨g,3,none⟩ (.slice aQ nQ xQ)) b 45 4 (.slice aQ nQ xQ) (cellsQ (insQ (q0,q1,q2,q3) S.Q)):=
    HO3.out.grp ((GrP.refl (fun k=>k=g) w3).set rfl _) fun k hk e=>hv9 k hk e
   have hM9:=HG1.out.own.M.grp hG9 fun k hk e=>e.elim (fun e=>HG1.out.own.M.parted HG1.out.own.Q (by decide) hk e) (HG1.out.ne k (.inl hk))
   have hJ9:=HG1.out.own.J.grp hG9 fun k hk e=>e.elim (fun e=>HG1.out.own.J.parted HG1.out.own.Q (by decide) hk e) (HG1.out.ne k (.inr (.inr (.inl hk))))
   have hlM9:=fun x hx=>(HG1.out.own.lM x hx).grp hG9 fun k hk e=>e.elim (fun e=>(HG1.out.own.lM x hx).off HG1.out.own.Q (by decide) hk e) (HG1.out.ne k (.inr (.inr (.inr (.inl ⟨x,hx,hk⟩)))))
   have hlJ9:=fun x hx=>(HG1.out.own.lJ x hx).grp hG9 fun k hk e=>e.elim (fun e=>(HG1.out.own.lJ x hx).off HG1.out.own.Q (by decide) hk e) (HG1.out.ne k (.inr (.inr (.inr (.inr ⟨x,hx,hk⟩)))))
   have hsz9:w.heap.size<=w2.heap.size:=Nat.le_trans hbb.size HBL2.out.size
   have hnew:∀ k,blkG g (.slice A N cA) (.slice aQ nQ xQ) (.slice C n cC) { S with Q:=insQ (q0,q1,q2,q3) S.Q } k->blkG g (.slice A N cA) (.slice B K0 cB) (.slice C n cC) S k ∨ w.heap.size<=k:=fun k hk=>by
    rcases hk with e | e | e | e | e | e
    ·exact .inl (.inl e)
    ·exact .inl (.inr (.inl e))
    ·rcases HAT3.out with h | h
     ·exact .inl (.inr (.inr (.inl (by rw [<- h];exact e))))
     ·exact .inr (Nat.le_trans hsz9 (h k e))
    ·exact .inl (.inr (.inr (.inr (.inl e))))
    ·exact .inl (.inr (.inr (.inr (.inr (.inl e)))))
    ·exact .inl (.inr (.inr (.inr (.inr (.inr e)))))
   have hne9:∀ k,blkS (.slice A N cA) (.slice aQ nQ xQ) (.slice C n cC) { S with Q:=insQ (q0,q1,q2,q3) S.Q } k->k ≠ g:=fun k hk=>by
    rcases hk with e | e | e | e | e
    ·exact HG1.out.ne k (.inl e)
    ·exact hv9 k e
    ·exact HG1.out.ne k (.inr (.inr (.inl e)))
    ·exact HG1.out.ne k (.inr (.inr (.inr (.inl e))))
    ·exact HG1.out.ne k (.inr (.inr (.inr (.inr e))))
   have hzQ:QsOk (insQ (q0,q1,q2,q3) S.Q):=fun x hx=>by
    unfold insQ at hx
    rcases List.mem_append.1 hx with hx | hx
    ·exact HG1.out.own.zQ x (List.mem_of_mem_take hx)
    ·rcases List.mem_cons.1 hx with rfl | hx
     ·exact hq
     ·exact HG1.out.own.zQ x (List.mem_of_mem_drop hx)
   have hGr:GrP (blkG g (.slice A N cA) (.slice B K0 cB) (.slice C n cC) S) w (w3.setCell ⟨g,3,none⟩ (.slice aQ nQ xQ)):=(GrP.ofBelow hbb).trans (hG9.wide fun k _ e=>e.elim (fun e=>.inr (.inr (.inl e))) .inl)
   have HF:Hid (Went w (w3.setCell ⟨g,3,none⟩ (.slice aQ nQ xQ)) b g (.slice A N cA) (.slice B K0 cB) (.slice C n cC) S { S with Q:=insQ (q0,q1,q2,q3) S.Q }):=⟨lst,_,_,_,{ S with Q:=insQ (q0,q1,q2,q3) S.Q },⟨hBK,hG.out.nx,⟨hM9,hQ9,hJ9,hlM9,hlJ9,HG1.out.own.zM,hzQ,HG1.out.own.zJ⟩,HG1.out.le,hne9⟩,rfl,hGr,hnew⟩
   clear hBK hG9 hv9 hQ9 hM9 hJ9 hlM9 hlJ9 hsz9 hnew hne9 hzQ hGr cst fst
   go_wp2_with fail
   go_ret
   exact ⟨rfl,HF.out⟩
end
end Go.Proofs.YtccccbofcnmdiaaGreat
