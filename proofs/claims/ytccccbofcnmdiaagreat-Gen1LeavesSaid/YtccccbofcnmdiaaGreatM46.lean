/- Lemmas that the law stands on. No condition. -/
import Derived.Test.YtccccbofcnmdiaaGreatM45
namespace Go.Proofs.YtccccbofcnmdiaaGreat
set_option linter.unusedSimpArgs false
set_option linter.unusedVariables false
set_option maxRecDepth 100000
set_option maxHeartbeats 51200000
section
open Go.RowKit Go.Sort
def or3 (x y z:Int):Int:=if x=0 then or2 y z else x

theorem or3_any (x y z:Int) (g:Nat) (w:World) (hg:g<w.heap.size) (c0:w.cell? ⟨g,0,none⟩=some (.int .i64 x)) (c1:w.cell? ⟨g,1,none⟩=some (.int .i64 y)) (c2:w.cell? ⟨g,2,none⟩=some (.int .i64 z)) :
  Calls Tryz.prog 211 #[.slice (some ⟨g,0,none⟩) 3 3] w fun e w'=>e = .returned (.int .i64 (or3 x y z))/\w=w':=by
 obtain ⟨r,hr⟩:∃ r,r=or3 x y z:=⟨_,rfl⟩
 rw [<- hr]
 have HR:=Lib.hid hr;clear hr
 by_cases h1:x=0
 case neg=>
  have hq:r=x:=by rw [HR.out];unfold or3;rw [if_neg h1]
  subst hq
  have h3:(r != 0)=true:=by simpa using h1
  have h4:(r == 0)=false:=by simpa using h1
  clear h1 HR
  go_enter Tryz.func211,Tryz.ntmps211
  go_wp2_with fail
  refine wp_loop_rounds 4 ?_
  rw [rounds_succ]
  go_wp2_with fail
  go_ret
  exact ⟨rfl,rfl⟩
 have hq:r=or2 y z:=by rw [HR.out];unfold or3;rw [if_pos h1]
 subst h1
 clear HR
 by_cases h2:y=0
 case neg=>
  rw [show or2 y z=y from if_neg h2] at hq
  subst hq
  have h3:(r != 0)=true:=by simpa using h2
  have h4:(r == 0)=false:=by simpa using h2
  clear h2
  go_enter Tryz.func211,Tryz.ntmps211
  go_wp2_with fail
  refine wp_loop_rounds 4 ?_
  rw [rounds_succ]
  go_wp2_with fail
  rw [rounds_succ]
  go_wp2_with fail
  go_ret
  exact ⟨rfl,rfl⟩
 rw [show or2 y z=z from if_pos h2] at hq
 subst h2 hq
 by_cases h5:r=0
 ·subst h5
  go_enter Tryz.func211,Tryz.ntmps211
  go_wp2_with fail
  refine wp_loop_rounds 4 ?_
  rw [rounds_succ]
  go_wp2_with fail
  rw [rounds_succ]
  go_wp2_with fail
  rw [rounds_succ]
  go_wp2_with fail
  rw [rounds_succ]
  go_wp2_with fail
  go_ret
  exact ⟨rfl,rfl⟩
 ·have h3:(r != 0)=true:=by simpa using h5
  have h4:(r == 0)=false:=by simpa using h5
  clear h5
  go_enter Tryz.func211,Tryz.ntmps211
  go_wp2_with fail
  refine wp_loop_rounds 4 ?_
  rw [rounds_succ]
  go_wp2_with fail
  rw [rounds_succ]
  go_wp2_with fail
  rw [rounds_succ]
  go_wp2_with fail
  go_ret
  exact ⟨rfl,rfl⟩
theorem lastJ_at {J:List Jb} {k:Nat} (h:J.length=k+1):lastJ J=(J[k]'(by omega)).pr:=by
 have e:J.length - 1=k:=by omega
 unfold lastJ
 rw [List.getLast?_eq_getElem?,e,List.getElem?_eq_getElem (show k<J.length by omega)]

theorem vlast_any (A:Option Addr) (n cap:Nat) (l:List Jb) (w:World) (hn:Hid (n=l.length)) (hl:n<=1000000) (hA:Hid (RdJ w A l)) :
  Calls Tryz.prog 217 #[.slice A n cap] w fun e w'=>e = .returned (.int .i64 (lastJ l))/\Below w.heap.size w w':=by
 obtain ⟨r,hr⟩:∃ r,r=lastJ l:=⟨_,rfl⟩
 rw [<- hr]
 have HR:=Lib.hid hr;clear hr
 by_cases h:n=0
 ·subst h
  have hl0:l=[]:=List.length_eq_zero_iff.1 hn.out.symm
  have hq:r = -1:=by rw [HR.out,hl0];rfl
  subst hq
  clear hl0
  go_enter Tryz.func217,Tryz.ntmps217
  go_wp2_with fail
  go_ret
  exact ⟨rfl,Below.refl _ _⟩
 ·obtain ⟨k,rfl⟩:∃ k,n=k+1:=⟨n - 1,by omega⟩
  have hk:l.length=k+1:=hn.out.symm
  have hkl:k<l.length:=by omega
  obtain ⟨g,o,rfl,hg,hj⟩:=hA.out.at hkl
  have c2:=hj.pr
  have hq:r=l[k].pr:=by rw [HR.out];exact lastJ_at hk
  rw [<- hq] at c2
  have e1:(((k+1:Nat):Int) == 0)=false:=by simp;omega
  have e2:wrap64 (((k+1:Nat):Int) - 1)=(k:Int):=by simp [wrap64];omega
  have hj':(k:Int)<((k+1:Nat):Int):=by omega
  have e3:((k:Int)).toNat=k:=by omega
  clear hj hq h hk hkl
  go_enter Tryz.func217,Tryz.ntmps217
  go_wp2_with fail
  go_ret
  exact ⟨rfl,Below.refl _ _⟩
section
variable {ops:Array Oper} {o:Oper} {a:Act} {w:World} {K:Act->World->Prop} {Q:Exit->Act->World->Prop}
theorem ithree_op (t u v:Tmp) (x y z:Int) (ho:o.op = .buildSlice 150 3 #[(0,.tmp t),(1,.tmp u),(2,.tmp v)]) (hx:a.tmps[t]?.getD undef = .int .i64 x) (hy:a.tmps[u]?.getD undef = .int .i64 y) (hz:a.tmps[v]?.getD undef = .int .i64 z) (h:∀ g w',g=w.heap.size->w' = w.alloc (.cells #[.int .i64 x,.int .i64 y,.int .i64 z] 3)->K (a.put o.dst (.slice (some ⟨g,0,none⟩) 3 3)) w'):o.wp Tryz.prog a w K Q:=by
 unfold Oper.wp execOp
 simp only [ho]
 go_simp
 exact h _ _ rfl rfl
end
def cfC (s:ByteArray) (l:List Jb) (s2:ByteArray) (l2:List Jb):Int:=or3 (cI l.length l2.length) (cI (lastJ l) (lastJ l2)) (Lib.compareBytes s.data.toList s2.data.toList)


theorem vcompare_any (s:ByteArray) (A:Option Addr) (n c:Nat) (l:List Jb) (s2:ByteArray) (A2:Option Addr) (n2 c2:Nat) (l2:List Jb) (w:World) (hn:Hid (n=l.length)) (hl:n<=1000000) (hA:Hid (RdJ w A l)) (hn2:Hid (n2=l2.length)) (hl2:n2<=1000000) (hA2:Hid (RdJ w A2 l2)) :
  Calls Tryz.prog 206 #[.agg #[.string s,.slice A n c],.agg #[.string s2,.slice A2 n2 c2]] w fun e w'=>e = .returned (.int .i64 (cfC s l s2 l2))/\Below w.heap.size w w':=by
 have k1:=fun W=>compareI_any (n:Int) (n2:Int) W
 have k2:=fun (W:World) (h:Hid (RdJ W A l))=>vlast_any A n c l W hn hl h
 have k3:=fun (W:World) (h:Hid (RdJ W A2 l2))=>vlast_any A2 n2 c2 l2 W hn2 hl2 h
 have k4:=fun W=>compareI_any (lastJ l) (lastJ l2) W
 have k5:=fun W=>compare_any s s2 W
 have k6:=fun (x y z:Int) (g:Nat) W=>or3_any x y z g W
 obtain ⟨r,hr⟩:∃ r,r=cfC s l s2 l2:=⟨_,rfl⟩
 rw [<- hr]
 unfold cfC at hr
 rw [<- hn.out,<- hn2.out] at hr
 generalize cI (n:Int) (n2:Int)=p at k1 hr
 generalize cI (lastJ l) (lastJ l2)=q at k4 hr
 generalize lastJ l=la at k2 k4
 generalize lastJ l2=lb at k3 k4
 generalize Lib.compareBytes s.data.toList s2.data.toList=u at k5 hr
 have K1:=Lib.hid k1;have K2:=Lib.hid k2;have K3:=Lib.hid k3;have K4:=Lib.hid k4;have K5:=Lib.hid k5;have K6:=Lib.hid k6;have HR:=Lib.hid hr;clear k1 k2 k3 k4 k5 k6 hr
 go_enter Tryz.func206,Tryz.ntmps206
 have hb0:Below w.heap.size w ((w.alloc (.cells #[.string s,.slice A n c] 234)).alloc (.cells #[.string s2,.slice A2 n2 c2] 234)):=((Below.refl _ _).alloc (Nat.le_refl _) _).alloc (by simp) _
 have hA0:Bk ((w.alloc (.cells #[.string s,.slice A n c] 234)).alloc (.cells #[.string s2,.slice A2 n2 c2] 234)) w.heap.size 234 #[.string s,.slice A n c]:=(Bk.fresh w _ _).later ((Below.refl _ _).alloc (Nat.le_refl _) _)
 have hC0:Bk ((w.alloc (.cells #[.string s,.slice A n c] 234)).alloc (.cells #[.string s2,.slice A2 n2 c2] 234)) (w.heap.size+1) 234 #[.string s2,.slice A2 n2 c2]:=Bk.freshAt _ _ _ (by simp)
 go_wp2_with fail
 generalize hw1:(w.alloc (.cells #[.string s,.slice A n c] 234)).alloc (.cells #[.string s2,.slice A2 n2 c2] 234)=w1 at hb0 hA0 hC0 ⊢
 clear hw1
 have HP1:=Lib.hid (hA.out.later hb0);have HP2:=Lib.hid (hA2.out.later hb0)
 have lc:w.heap.size+1<w1.heap.size:=hC0.here
 have HA0:=Lib.hid hA0;have HC0:=Lib.hid hC0
 clear hA0 hC0
 refine wp_region_held_drew (S:=fun X=>Below w1.heap.size w1 X) (by kernel_rfl) (Below.drew (Below.refl _ _)) (fun hS0=>?_)
 refine wpAnyH_take (i:=0) (v:=?_) rfl (by kernel_rfl) (by kernel_rfl) (by kernel_rfl) (fun _ _ _ h=>h) (Or.inl ⟨by rfl,?_⟩) hS0 ?_
 rotate_left
 ·intro W _;go_simp;try with_reducible rfl
 try simp only [Act.put,tD,tB,tC,tA,tE,tF]
 refine wpAnyH_take (i:=1) (v:=?_) rfl (by kernel_rfl) (by kernel_rfl) (by kernel_rfl) (fun _ _ _ h=>h) (Or.inl ⟨by rfl,?_⟩) hS0 ?_
 rotate_left
 ·intro W hSW;have hx:=(hSW.cell (by show w.heap.size<w1.heap.size;omega)).trans (HA0.out.cellAt 1);go_simp;try with_reducible rfl
 try simp only [Act.put,tD,tB,tC,tA,tE,tF]
 refine wpAnyH_take (i:=2) (v:=?_) rfl (by kernel_rfl) (by kernel_rfl) (by kernel_rfl) (fun _ _ _ h=>h) (Or.inl ⟨by rfl,?_⟩) hS0 ?_
 rotate_left
 ·intro W _;go_simp;try with_reducible rfl
 try simp only [Act.put,tD,tB,tC,tA,tE,tF]
 refine wpAnyH_take (i:=3) (v:=?_) rfl (by kernel_rfl) (by kernel_rfl) (by kernel_rfl) (fun _ _ _ h=>h) (Or.inl ⟨by rfl,?_⟩) hS0 ?_
 rotate_left
 ·intro W _;go_simp;try with_reducible rfl
 try simp only [Act.put,tD,tB,tC,tA,tE,tF]
 refine wpAnyH_take (i:=4) (v:=?_) rfl (by kernel_rfl) (by kernel_rfl) (by kernel_rfl) (fun _ _ _ h=>h) (Or.inl ⟨by rfl,?_⟩) hS0 ?_
 rotate_left
 ·intro W hSW;have hx:=(hSW.cell (by show w.heap.size+1<w1.heap.size;omega)).trans (HC0.out.cellAt 1);go_simp;try with_reducible rfl
 try simp only [Act.put,tD,tB,tC,tA,tE,tF]
 refine wpAnyH_take (i:=5) (v:=?_) rfl (by kernel_rfl) (by kernel_rfl) (by kernel_rfl) (fun _ _ _ h=>h) (Or.inl ⟨by rfl,?_⟩) hS0 ?_
 rotate_left
 ·intro W _;go_simp;try with_reducible rfl
 try simp only [Act.put,tD,tB,tC,tA,tE,tF]
 refine wpAnyH_take (i:=7) (v:=?_) rfl (by kernel_rfl) (by kernel_rfl) (by kernel_rfl) (fun _ _ _ h=>h) (Or.inl ⟨by rfl,?_⟩) hS0 ?_
 rotate_left
 ·intro W _;go_simp;try with_reducible rfl
 try simp only [Act.put,tD,tB,tC,tA,tE,tF]
 refine wpAnyH_take (i:=8) (v:=?_) rfl (by kernel_rfl) (by kernel_rfl) (by kernel_rfl) (fun _ _ _ h=>h) (Or.inl ⟨by rfl,?_⟩) hS0 ?_
 rotate_left
 ·intro W hSW;have hx:=(hSW.cell (by show w.heap.size<w1.heap.size;omega)).trans (HA0.out.cellAt 1);go_simp;try with_reducible rfl
 try simp only [Act.put,tD,tB,tC,tA,tE,tF]
 refine wpAnyH_take (i:=10) (v:=?_) rfl (by kernel_rfl) (by kernel_rfl) (by kernel_rfl) (fun _ _ _ h=>h) (Or.inl ⟨by rfl,?_⟩) hS0 ?_
 rotate_left
 ·intro W _;go_simp;try with_reducible rfl
 try simp only [Act.put,tD,tB,tC,tA,tE,tF]
 refine wpAnyH_take (i:=11) (v:=?_) rfl (by kernel_rfl) (by kernel_rfl) (by kernel_rfl) (fun _ _ _ h=>h) (Or.inl ⟨by rfl,?_⟩) hS0 ?_
 rotate_left
 ·intro W hSW;have hx:=(hSW.cell (by show w.heap.size+1<w1.heap.size;omega)).trans (HC0.out.cellAt 1);go_simp;try with_reducible rfl
 try simp only [Act.put,tD,tB,tC,tA,tE,tF]
 refine wpAnyH_take (i:=14) (v:=?_) rfl (by kernel_rfl) (by kernel_rfl) (by kernel_rfl) (fun _ _ _ h=>h) (Or.inl ⟨by rfl,?_⟩) hS0 ?_
 rotate_left
 ·intro W _;go_simp;try with_reducible rfl
 try simp only [Act.put,tD,tB,tC,tA,tE,tF]
 refine wpAnyH_take (i:=15) (v:=?_) rfl (by kernel_rfl) (by kernel_rfl) (by kernel_rfl) (fun _ _ _ h=>h) (Or.inl ⟨by rfl,?_⟩) hS0 ?_
 rotate_left
 ·intro W hSW;have hx:=(hSW.cell (by show w.heap.size<w1.heap.size;omega)).trans (HA0.out.cellAt 0);go_simp;try with_reducible rfl
 try simp only [Act.put,tD,tB,tC,tA,tE,tF]
 refine wpAnyH_take (i:=16) (v:=?_) rfl (by kernel_rfl) (by kernel_rfl) (by kernel_rfl) (fun _ _ _ h=>h) (Or.inl ⟨by rfl,?_⟩) hS0 ?_
 rotate_left
 ·intro W _;go_simp;try with_reducible rfl
 try simp only [Act.put,tD,tB,tC,tA,tE,tF]
 refine wpAnyH_take (i:=17) (v:=?_) rfl (by kernel_rfl) (by kernel_rfl) (by kernel_rfl) (fun _ _ _ h=>h) (Or.inl ⟨by rfl,?_⟩) hS0 ?_
 rotate_left
 ·intro W hSW;have hx:=(hSW.cell (by show w.heap.size+1<w1.heap.size;omega)).trans (HC0.out.cellAt 0);go_simp;try with_reducible rfl
 try simp only [Act.put,tD,tB,tC,tA,tE,tF]
 refine wpAnyH_ready (rs:=[6]) (by kernel_rfl) (by simp) ?_
 refine AllReadyH.cons rfl (fun K hK=>?_) AllReadyH.nil
 go_simp
 refine (K1.out _).mono ?_
 rintro v v1 ⟨rfl,rfl⟩
 go_simp
 refine hK.out _ _ hS0 (fun hS1=>?_)
 clear hK K
 try simp only [Act.put,tD,tB,tC,tA,tE,tF]
 refine wpAnyH_ready (rs:=[9]) (by kernel_rfl) (by simp) ?_
 refine AllReadyH.cons rfl (fun K hK=>?_) AllReadyH.nil
 go_simp
 refine (K2.out _ (HP1.out.later hS1)).mono ?_
 rintro v v2 ⟨rfl,hbl⟩
 go_simp
 refine hK.out _ _ (hS1.trans (hbl.mono hS1.size)) (fun hS2=>?_)
 clear hK K
 try simp only [Act.put,tD,tB,tC,tA,tE,tF]
 clear hbl
 refine wpAnyH_ready (rs:=[12]) (by kernel_rfl) (by simp) ?_
 refine AllReadyH.cons rfl (fun K hK=>?_) AllReadyH.nil
 go_simp
 refine (K3.out _ (HP2.out.later hS2)).mono ?_
 rintro v v3 ⟨rfl,hbl⟩
 go_simp
 refine hK.out _ _ (hS2.trans (hbl.mono hS2.size)) (fun hS3=>?_)
 clear hK K
 try simp only [Act.put,tD,tB,tC,tA,tE,tF]
 clear hbl
 refine wpAnyH_ready (rs:=[13]) (by kernel_rfl) (by simp) ?_
 refine AllReadyH.cons rfl (fun K hK=>?_) AllReadyH.nil
 go_simp
 refine (K4.out _).mono ?_
 rintro v v4 ⟨rfl,rfl⟩
 go_simp
 refine hK.out _ _ hS3 (fun hS4=>?_)
 clear hK K
 try simp only [Act.put,tD,tB,tC,tA,tE,tF]
 refine wpAnyH_ready (rs:=[18]) (by kernel_rfl) (by simp) ?_
 refine AllReadyH.cons rfl (fun K hK=>?_) AllReadyH.nil
 go_simp
 refine (K5.out _).mono ?_
 rintro v v5 ⟨rfl,rfl⟩
 go_simp
 refine hK.out _ _ hS4 (fun hS5=>?_)
 clear hK K
 try simp only [Act.put,tD,tB,tC,tA,tE,tF]
 refine wpAnyH_ready (rs:=[19]) (by kernel_rfl) (by simp) ?_
 refine AllReadyH.cons rfl (fun K hK=>?_) AllReadyH.nil
 simp only [if_pos,Region.wanted]
 refine ithree_op 11 18 23 p q u rfl rfl rfl rfl ?_
 intro g v6 hg hv6
 subst hg hv6
 refine hK.out _ _ (hS5.alloc hS5.size _) (fun hS6=>?_)
 clear hK K
 try simp only [Act.put,tD,tB,tC,tA,tE,tF]
 refine wpAnyH_ready (rs:=[20]) (by kernel_rfl) (by simp) ?_
 refine AllReadyH.cons rfl (fun K hK=>?_) AllReadyH.nil
 go_simp
 refine (K6.out p q u _ _ (by simp) (by simp) (by simp) (by simp)).mono ?_
 rintro v v7 ⟨rfl,rfl⟩
 go_simp
 refine hK.out _ _ hS6 (fun hS7=>?_)
 clear hK K
 try simp only [Act.put,tD,tB,tC,tA,tE,tF]
 refine wpAnyH_take (i:=21) (v:=?_) rfl (by kernel_rfl) (by kernel_rfl) (by kernel_rfl) (fun _ _ _ h=>h) (Or.inl ⟨by rfl,?_⟩) hS7 ?_
 rotate_left
 ·intro W _;go_simp;try with_reducible rfl
 try simp only [Act.put,tD,tB,tC,tA,tE,tF]
 refine wpAnyH_done (by kernel_rfl) ?_ _
 go_wp2_with fail
 go_ret
 exact ⟨HR.out.symm ▸ rfl,hb0.trans (hS7.mono hb0.size)⟩
end
section
open Go.RowKit Go.Sort
theorem RdK.past {w w':World} {k g:Nat} {A:Option Addr} {l:List (List Value)} (h:RdK w k A l) (hg:w.grownBy w' (some g)) (ha:∀ a,A=some a->g<a.block):RdK w' k A l:=fun i x hx=>by
 obtain ⟨g',o,hA,hr⟩:=h i x hx
 have hlt:g<g':=ha _ hA
 refine ⟨g',o,hA,fun j v hv=>?_⟩
 rw [World.cell?_of_block (hg.block g' (World.block_lt_of_cell? w _ (hr j v hv)) (by simp;omega))]
 exact hr j v hv
def chJ (L:List Ml) (t:Kt) (tl:List Lb) (l:List Jb) (o:Option Ch):List Jb:=match o with | none=>[] | some x=>((plansOf L t tl l x.1).getD []).map (jat l)
theorem chG_is (L:List Ml) (t:Kt) (tl:List Lb) (l:List Jb) (o:Option Ch):chG L t tl l o=(chJ L t tl l o).map Jb.nm:=by
 cases o with
 | none=>rfl
 | some x=>exact namesAt_is l _
section
variable {L:List Ml} {t:Kt} {tl:List Lb} {l:List Jb} {k:Nat} {o:Option Ch} {G:List Nat}
theorem chJ_len (h:cho (plansOf L t tl l) l L k=o) (hl:l.length<=1000000) (hk:k<=L.length):(chJ L t tl l o).length<=1000000:=by
 cases o with
 | none=>simp [chJ]
 | some x=>
  obtain ⟨⟨G,h1,h2,h3,h4⟩,_⟩:=cho_is h
  have hxl:x.1<L.length:=by omega
  show (((plansOf L t tl l x.1).getD []).map (jat l)).length<=1000000
  rw [h1,List.length_map]
  rw [plansOf_at hxl] at h1
  have:=places_len h1
  show G.length<=_
  omega
theorem betr_cf (h:cho (plansOf L t tl l) l L k=o) (ho:o.isSome=true) (G:List Nat):decide (cfC (nmAt L k) (G.map (jat l)) (chN L o) (chJ L t tl l o)<0)=betr L k G.length (lastP l G) o:=by
 cases o with
 | none=>cases ho
 | some x=>
  obtain ⟨b,m,tp⟩:=x
  obtain ⟨⟨G2,h1,h2,h3,h4⟩,_⟩:=cho_is h
  simp only at h1 h2 h3
  have e1:chJ L t tl l (some (b,m,tp))=G2.map (jat l):=by unfold chJ;simp only [h1,Option.getD_some]
  rw [e1,betr_some]
  show decide (cfC (nmAt L k) (G.map (jat l)) (nmAt L b) (G2.map (jat l))<0)=_
  unfold cfC or3 or2
  rw [<- lastP_is,<- lastP_is,<- h3,List.length_map,List.length_map,<- h2]
  by_cases c1:G.length=m
  ·rw [if_pos (cI_zero.2 (by omega)),decide_eq_false (show ¬ G.length<m by omega),decide_eq_true c1]
   simp only [Bool.false_or,Bool.true_and]
   by_cases c2:lastP l G=tp
   ·rw [if_pos (cI_zero.2 c2),decide_eq_false (show ¬ lastP l G<tp by omega),decide_eq_true c2]
    simp only [Bool.false_or,Bool.true_and]
    rw [Bool.eq_iff_iff,decide_eq_true_eq,compareBytes_neg,sL_iff]
   ·rw [if_neg (fun e=>c2 (cI_zero.1 e)),decide_eq_false c2]
    simp only [Bool.false_and,Bool.or_false]
    rw [decide_eq_decide];exact cI_neg
  ·rw [if_neg (fun e=>c1 (by have:=cI_zero.1 e;omega)),decide_eq_false c1]
   simp only [Bool.false_and,Bool.or_false]
   rw [decide_eq_decide,cI_neg];omega
theorem chJ_new (h:plansOf L t tl l k=some G) (m:Nat) (tp:Int):chJ L t tl l (some (k,m,tp))=G.map (jat l):=by unfold chJ;simp only [h,Option.getD_some]
end


theorem vchoose_any (A0:Option Addr) (N c0:Nat) (L:List Ml) (A:Option Addr) (n cap:Nat) (l:List Jb) (t:Kt) (tl:List Lb) (w:World) (hN:Hid (N=L.length)) (hNl:N<=1000000) (hL:Hid (RdM w A0 (mcs L))) (hLo:Hid (MsOk w L)) (hn:Hid (n=l.length)) (hl:n<=1000000) (hA:Hid (RdJ w A l)) (hT:Hid (KtOk w t tl)) (r:Option Ch) (hr:Hid (cho (plansOf L t tl l) l L N=r)) :
  Calls Tryz.prog 191 #[.slice A0 N c0,.slice A n cap,.agg t.arr] w fun e w'=>RetC w.heap.size w' e (chN L r) (chG L t tl l r) r.isSome/\Below w.heap.size w w':=by
 rw [chG_is]
 go_enter Tryz.func191,Tryz.ntmps191
 have HT0:=Lib.hid (show Bk (w.alloc (.cells t.arr 47)) w.heap.size 47 t.arr from Bk.fresh _ _ _)
 have hB0:Below w.heap.size w (w.alloc (.cells t.arr 47)):=(Below.refl _ _).alloc (Nat.le_refl _) _
 go_wp2_with ((with_reducible refine store_bk rfl 234 (.tmp 9) (.tmp 16) rfl (w.heap.size+1) 0 #[.string ⟨#[]⟩,.slice none 0 0] rfl rfl 234 _ #[.string ⟨#[]⟩,.slice none 0 0] (Bk.freshAt _ _ _ (by simp)) (by kernel_rfl) (by simp) (by kernel_rfl) rfl ?_);intro w1 hB1 hg1 hs1;have HT1:=Lib.hid ((HT0.out.later ((Below.refl _ _).alloc (Nat.le_refl _) _)).stays hg1 (by simp));have HC1:=Lib.hid hB1;have hb1:Below w.heap.size w w1:=grown_below (hB0.alloc (by simp) _) hg1 (by omega);clear hB1 hg1 hs1 HT0 hB0)
 go_loopw [10,19] (fun v10 i wr=>∃ k:Nat,k<=N/\i = .int .i64 k/\(∃ (oc:Option Ch) (B:Option Addr) (c:Nat),v10 = .bool oc.isSome/\Hid (cho (plansOf L t tl l) l L k=oc)/\Hid (Bk wr (w.heap.size+1) 234 #[.string (chN L oc),.slice B (chJ L t tl l oc).length c])/\Hid (RdJ wr B (chJ L t tl l oc))/\Hid (∀ a,B=some a->w.heap.size+2<=a.block))/\Hid (Bk wr w.heap.size 47 t.arr)/\Below w.heap.size w wr) (fun _ i wr=>N - (intOf i).toNat)
 case atStart=>exact ⟨0,Nat.zero_le _,rfl,⟨none,none,0,rfl,(show _=_ from rfl),HC1,RdJ.nil _ _,(show ∀ a,none=some a->_ from fun a h=>by cases h)⟩,HT1,hb1⟩
 case round=>
  clear HT1 hb1 HC1
  obtain ⟨k,hk,rfl,⟨oc,B,cB,rfl,HC,HBe,HRd,HFr⟩,HTb,hb⟩:=hrel
  have lt0:w.heap.size+1<wr.heap.size:=HBe.out.here
  have hJl:(chJ L t tl l oc).length<=1000000:=chJ_len HC.out (by have:=hn.out;omega) (by have:=hN.out;omega)
  by_cases hlt:k<N
  ·have hlk:k<L.length:=by have:=hN.out;omega
   obtain ⟨g,o,hAg,hg,hm⟩:=(hL.out.later hb).at (i:=k) (by simpa [mcs] using hlk)
   subst hAg
   rw [mcs_at hlk] at hm
   obtain ⟨x,hx⟩:∃ x,x=L[k]:=⟨_,rfl⟩
   rw [<- hx] at hm
   have HMt:=Lib.hid hm;clear hm
   have hxo:McOk w x.1 x.2:=by rw [hx];exact hLo.out.at hlk
   obtain ⟨r',hr'⟩:∃ r,places x.1 x.2 t tl l=r:=⟨_,rfl⟩
   have hpl:plansOf L t tl l k=r':=by rw [plansOf_at hlk,<- hx];exact hr'
   have hnk:nmAt L k=x.1.nm:=by rw [nmAt_at hlk,<- hx]
   have ks:=fun (W:World) (h1:Hid (RdJ W A l)) (h2:Hid (McOk W x.1 x.2)) (h3:Hid (KtOk W t tl))=>vtop_any x.1 x.2 A n cap l t tl W hn hl h1 h2 h3 (r'.map fun G=>G.map (jat l)) (show planJ x.1 x.2 t tl l=_ by unfold planJ;rw [hr'])
   have hGn:(r'.getD []).length<=n:=by
    cases r' with
    | none=>simp
    | some G=>have:=places_len hr';have:=hn.out;simp;omega
   have KS:=Lib.hid ks;have HPl:=Lib.hid hpl;have HNk:=Lib.hid hnk;have HXo:=Lib.hid hxo
   clear ks hpl hnk hxo hx hr'
   go_wp2_with (first | (with_reducible refine load_rg rfl 60 _ rfl g (o+k * 7) rfl x.1.arr _ HMt.out.rg Tryz.underlying60 rfl (by kernel_rfl) ?_) | ((with_reducible refine store_bk rfl 60 (.tmp 12) (.tmp 22) rfl wr.heap.size 0 x.1.arr rfl rfl 60 _ x.1.arr (Bk.fresh _ _ _) (by kernel_rfl) (by simp) (by kernel_rfl) rfl ?_);intro w4 hB4 hg4 hs4;have bl4:Below wr.heap.size wr w4:=grown_below ((Below.refl _ _).alloc (Nat.le_refl _) _) hg4 (Nat.le_refl _);have HX4:=Lib.hid hB4;clear hB4 hg4 hs4;have HT4:=Lib.hid (HTb.out.later bl4);have HE4:=Lib.hid (HBe.out.later bl4);have HR4:=Lib.hid (HRd.out.later bl4);have hb4:Below w.heap.size w w4:=hb.trans (bl4.mono hb.size)) | (with_reducible refine load_bk rfl 60 _ rfl wr.heap.size 0 rfl 60 x.1.arr x.1.arr _ HX4.out (Part.whole _) Tryz.underlying60 rfl (by kernel_rfl) ?_) | (with_reducible refine load_bk rfl 47 _ rfl w.heap.size 0 rfl 47 t.arr t.arr _ HT4.out (Part.whole _) Tryz.underlying47 rfl (by kernel_rfl) ?_))
   refine (KS.out _ (hA.out.later hb4) (HXo.out.later hb4) (hT.out.later hb4)).mono ?_;rintro v w5 ⟨⟨B5,c5,rfl,h1,h2,h3,h4⟩,hb5⟩
   have HX5:=Lib.hid (HX4.out.later hb5);have HT5:=Lib.hid (HT4.out.later hb5);have HE5:=Lib.hid (HE4.out.later hb5);have HR5:=Lib.hid (HR4.out.later hb5)
   have hB5:Below w.heap.size w w5:=hb4.trans (hb5.mono hb4.size)
   have lt5:w.heap.size+1<w5.heap.size:=HE5.out.here
   have lx5:wr.heap.size<w5.heap.size:=HX5.out.here
   have h4':∀ a,B5=some a->w.heap.size+2<=a.block:=fun a e=>by have:=h4 a e;have:=HE4.out.here;omega
   have HF5:=Lib.hid h4'
   clear h4 h4' HX4 HT4 HE4 HR4 hb4 hb5 bl4 HTb HBe HRd HMt hg
   cases r' with
   | none=>
    have HC2:Hid (cho (plansOf L t tl l) l L (k+1)=oc):=by show _=_;rw [cho_no HPl.out];exact HC.out
    clear h1 h2 h3 HPl KS
    go_wp2_with fail
    go_round
    case rel=>exact ⟨k+1,by omega,by go_num,⟨oc,B,cB,rfl,HC2,HE5,HR5,HFr⟩,HT5,hB5⟩
    case measure=>simp [intOf];omega
   | some G=>
    have hG1:((Option.map (fun G=>G.map (jat l)) (some G)).getD [])=G.map (jat l):=rfl
    have hG2:(Option.map (fun G=>List.map (jat l) G) (some G)).isSome=true:=rfl
    rw [hG1] at h1 h2 ⊢
    rw [hG2]
    have hGn':G.length<=n:=hGn
    obtain ⟨E,hE⟩:∃ E,E=G.map (jat l):=⟨_,rfl⟩
    have hEl:E.length<=1000000:=by rw [hE,List.length_map];omega
    rw [<- hE] at h1 h2 ⊢
    obtain ⟨q,hq⟩:∃ q,q=E.length:=⟨_,rfl⟩
    rw [<- hq] at h2 hEl ⊢
    have H1:=Lib.hid h1;have HQ:=Lib.hid hq;have HEE:=Lib.hid hE
    clear h1 hq hE hG1 hG2 hGn hGn' KS
    have c0:w5.cell? ⟨wr.heap.size,0,none⟩=some (.string x.1.nm):=HX5.out.cellAt 0
    have HNew:Hid (∀ (m:Nat) (tp:Int),chJ L t tl l (some (k,m,tp))=E):=fun m tp=>by rw [HEE.out];exact chJ_new HPl.out m tp
    have hNm:∀ (m:Nat) (tp:Int),chN L (some (k,m,tp))=x.1.nm:=fun m tp=>HNk.out
    have HNm:=Lib.hid hNm;clear hNm
    cases oc with
    | none=>
     have HC2:Hid (cho (plansOf L t tl l) l L (k+1)=some (k,G.length,lastP l G)):=by show _=_;rw [cho_yes HPl.out,HC.out];rfl
     go_wp2_with (first | ((with_reducible refine store_bk rfl 234 (.tmp 15) (.tmp 36) rfl w5.heap.size 0 #[.string x.1.nm,.slice B5 q c5] rfl rfl 234 _ #[.string x.1.nm,.slice B5 q c5] (Bk.fresh _ _ _) (by kernel_rfl) (by simp) (by kernel_rfl) rfl ?_);intro w6 hB6 hg6 hs6;have bl6:Below w5.heap.size w5 w6:=grown_below ((Below.refl _ _).alloc (Nat.le_refl _) _) hg6 (Nat.le_refl _);have HY6:=Lib.hid hB6;clear hB6 hg6 hs6;have HT6:=Lib.hid (HT5.out.later bl6);have HE6:=Lib.hid (HE5.out.later bl6);have HR6:=Lib.hid (HR5.out.later bl6);have H16:=Lib.hid (H1.out.later bl6);have hb6:Below w.heap.size w w6:=hB5.trans (bl6.mono hB5.size);have lt6:w.heap.size+1<w6.heap.size:=HE6.out.here) | (with_reducible refine load_bk rfl 234 _ rfl w5.heap.size 0 rfl 234 #[.string x.1.nm,.slice B5 q c5] #[.string x.1.nm,.slice B5 q c5] _ HY6.out (Part.whole _) Tryz.underlying234 rfl (by kernel_rfl) ?_) | ((with_reducible refine store_bk rfl 234 (.tmp 9) (.tmp 45) rfl (w.heap.size+1) 0 #[.string x.1.nm,.slice B5 q c5] rfl rfl 234 _ #[.string x.1.nm,.slice B5 q c5] HE6.out (by kernel_rfl) (by simp) (by kernel_rfl) rfl ?_);intro w8 hB8 hg8 hs8;have HE8:=Lib.hid hB8;have HT8:=Lib.hid (HT6.out.stays hg8 (by simp));have H18:=Lib.hid (RdK.past H16.out hg8 (fun a e=>by have:=HF5.out a e;omega));have hb8:Below w.heap.size w w8:=hb6.grown hg8 (by omega) (fun g e=>by injection e with e;omega);clear hB8 hs8 hg8))
     go_round
     case rel=>exact ⟨k+1,by omega,by go_num,⟨some (k,G.length,lastP l G),B5,c5,rfl,HC2,(by show Bk _ _ _ _;rw [HNm.out,HNew.out,<- HQ.out];exact HE8.out),(by show RdJ _ _ _;rw [HNew.out];exact H18.out),HF5⟩,HT8,hb8⟩
     case measure=>simp [intOf];omega
    | some y=>
     have hcf:=betr_cf (k:=k) HC.out rfl G
     rw [HNk.out,<- HEE.out] at hcf
     have kc:=fun (W:World) (h1:Hid (RdJ W B5 E)) (h2:Hid (RdJ W B (chJ L t tl l (some y))))=>vcompare_any x.1.nm B5 q c5 E (chN L (some y)) B (chJ L t tl l (some y)).length cB (chJ L t tl l (some y)) W HQ hEl h1 (show _=_ from rfl) hJl h2
     obtain ⟨z,hz⟩:∃ z,z=cfC x.1.nm E (chN L (some y)) (chJ L t tl l (some y)):=⟨_,rfl⟩
     rw [<- hz] at hcf kc
     obtain ⟨R,hR⟩:∃ R,betr L k G.length (lastP l G) (some y)=R:=⟨_,rfl⟩
     have hcy:=cho_yes (l:=l) (L:=L) HPl.out
     rw [HC.out,hR] at hcy
     rw [hR] at hcf
     generalize hJJ:chJ L t tl l (some y)=J at kc HE5 HR5 hJl
     generalize hNN:chN L (some y)=nn at kc HE5
     have KC:=Lib.hid kc;have HCY:=Lib.hid hcy;have HJJ:=Lib.hid hJJ;have HNN:=Lib.hid hNN
     clear kc hcy hz hR hJJ hNN
     have hso:(some y).isSome=true:=rfl
     rw [hso]
     generalize hJn:J.length=jn at KC HE5 hJl
     have HJn:=Lib.hid hJn;clear hJn hso
     go_wp2_with (first | ((with_reducible refine store_bk rfl 234 (.tmp 15) (.tmp 36) rfl w5.heap.size 0 #[.string x.1.nm,.slice B5 q c5] rfl rfl 234 _ #[.string x.1.nm,.slice B5 q c5] (Bk.fresh _ _ _) (by kernel_rfl) (by simp) (by kernel_rfl) rfl ?_);intro w6 hB6 hg6 hs6;have bl6:Below w5.heap.size w5 w6:=grown_below ((Below.refl _ _).alloc (Nat.le_refl _) _) hg6 (Nat.le_refl _);have HY6:=Lib.hid hB6;clear hB6 hg6 hs6;have HT6:=Lib.hid (HT5.out.later bl6);have HE6:=Lib.hid (HE5.out.later bl6);have HR6:=Lib.hid (HR5.out.later bl6);have H16:=Lib.hid (H1.out.later bl6);have hb6:Below w.heap.size w w6:=hB5.trans (bl6.mono hB5.size);have lt6:w.heap.size+1<w6.heap.size:=HE6.out.here) | (with_reducible refine load_bk rfl 234 _ rfl w5.heap.size 0 rfl 234 #[.string x.1.nm,.slice B5 q c5] #[.string x.1.nm,.slice B5 q c5] _ HY6.out (Part.whole _) Tryz.underlying234 rfl (by kernel_rfl) ?_) | (with_reducible refine load_bk rfl 234 _ rfl (w.heap.size+1) 0 rfl 234 #[.string nn,.slice B jn cB] #[.string nn,.slice B jn cB] _ HE6.out (Part.whole _) Tryz.underlying234 rfl (by kernel_rfl) ?_))
     refine (KC.out _ (H1.out.later bl6) HR6).mono ?_;rintro v w7 ⟨rfl,hb7⟩
     have HT7:=Lib.hid (HT6.out.later hb7);have HE7:=Lib.hid (HE6.out.later hb7);have HY7:=Lib.hid (HY6.out.later hb7);have HR7:=Lib.hid (HR6.out.later hb7);have H17:=Lib.hid (H16.out.later hb7);have hB7:Below w.heap.size w w7:=hb6.trans (hb7.mono hb6.size)
     have lt7:w.heap.size+1<w7.heap.size:=HE7.out.here
     have ly7:w5.heap.size<w7.heap.size:=HY7.out.here
     clear HT6 HE6 HY6 HR6 H16 hb6 hb7 bl6 HT5 HE5 HX5 HR5 hB5 H1 c0 lt5 lx5
     cases R with
     | true=>
      have HC2:Hid (cho (plansOf L t tl l) l L (k+1)=some (k,G.length,lastP l G)):=HCY.out
      go_wp2_with (first | (with_reducible refine load_bk rfl 234 _ rfl w5.heap.size 0 rfl 234 #[.string x.1.nm,.slice B5 q c5] #[.string x.1.nm,.slice B5 q c5] _ HY7.out (Part.whole _) Tryz.underlying234 rfl (by kernel_rfl) ?_) | ((with_reducible refine store_bk rfl 234 (.tmp 9) (.tmp 45) rfl (w.heap.size+1) 0 #[.string x.1.nm,.slice B5 q c5] rfl rfl 234 _ #[.string x.1.nm,.slice B5 q c5] HE7.out (by kernel_rfl) (by simp) (by kernel_rfl) rfl ?_);intro w8 hB8 hg8 hs8;have HE8:=Lib.hid hB8;have HT8:=Lib.hid (HT7.out.stays hg8 (by simp));have H18:=Lib.hid (RdK.past H17.out hg8 (fun a e=>by have:=HF5.out a e;omega));have hb8:Below w.heap.size w w8:=hB7.grown hg8 (by omega) (fun g e=>by injection e with e;omega);clear hB8 hs8 hg8))
      go_round
      case rel=>exact ⟨k+1,by omega,by go_num,⟨some (k,G.length,lastP l G),B5,c5,rfl,HC2,(by show Bk _ _ _ _;rw [HNm.out,HNew.out,<- HQ.out];exact HE8.out),(by show RdJ _ _ _;rw [HNew.out];exact H18.out),HF5⟩,HT8,hb8⟩
      case measure=>simp [intOf];omega
     | false=>
      have HC2:Hid (cho (plansOf L t tl l) l L (k+1)=some y):=HCY.out
      go_wp2_with fail
      go_round
      case rel=>exact ⟨k+1,by omega,by go_num,⟨some y,B,cB,rfl,HC2,(by show Bk _ _ _ _;rw [HNN.out,HJJ.out,HJn.out];exact HE7.out),(by show RdJ _ _ _;rw [HJJ.out];exact HR7.out),HFr⟩,HT7,hB7⟩
      case measure=>simp [intOf];omega
  ·have hk':k=N:=by omega
   subst hk'
   have hrr:oc=r:=by rw [<- HC.out,<- hr.out]
   subst hrr
   have kn:=fun (W:World) (h1:Hid (RdJ W B (chJ L t tl l oc)))=>vnames_any B (chJ L t tl l oc).length cB (chJ L t tl l oc) W (show _=_ from rfl) hJl h1
   generalize hJn:(chJ L t tl l oc).length=jn at kn HBe
   have KN:=Lib.hid kn;clear kn hJn
   have cn:wr.cell? ⟨w.heap.size+1,0,none⟩=some (.string (chN L oc)):=HBe.out.cellAt 0
   have cs:wr.cell? ⟨w.heap.size+1,1,none⟩=some (.slice B jn cB):=HBe.out.cellAt 1
   have CN:=Lib.hid cn;have CS:=Lib.hid cs;clear cn cs
   go_wp2_with fail
   refine wp_region_held_drew (S:=fun X=>Below wr.heap.size wr X) (by kernel_rfl) (Below.drew (Below.refl _ _)) (fun hS0=>?_)
   refine wpAnyH_take (i:=0) (v:=?_) rfl (by kernel_rfl) (by kernel_rfl) (by kernel_rfl) (fun _ _ _ h=>h) (Or.inl ⟨by rfl,?_⟩) hS0 ?_
   rotate_left
   ·intro W _;go_simp;try with_reducible rfl
   try simp only [Act.put,tD,tB,tC,tA,tE,tF]
   refine wpAnyH_take (i:=1) (v:=?_) rfl (by kernel_rfl) (by kernel_rfl) (by kernel_rfl) (fun _ _ _ h=>h) (Or.inl ⟨by rfl,?_⟩) hS0 ?_
   rotate_left
   ·intro W hSW;have hx:=(hSW.cell (by show w.heap.size+1<wr.heap.size;omega)).trans CN.out;go_simp;try with_reducible rfl
   try simp only [Act.put,tD,tB,tC,tA,tE,tF]
   refine wpAnyH_take (i:=2) (v:=?_) rfl (by kernel_rfl) (by kernel_rfl) (by kernel_rfl) (fun _ _ _ h=>h) (Or.inl ⟨by rfl,?_⟩) hS0 ?_
   rotate_left
   ·intro W _;go_simp;try with_reducible rfl
   try simp only [Act.put,tD,tB,tC,tA,tE,tF]
   refine wpAnyH_take (i:=3) (v:=?_) rfl (by kernel_rfl) (by kernel_rfl) (by kernel_rfl) (fun _ _ _ h=>h) (Or.inl ⟨by rfl,?_⟩) hS0 ?_
   rotate_left
   ·intro W hSW;have hx:=(hSW.cell (by show w.heap.size+1<wr.heap.size;omega)).trans CS.out;go_simp;try with_reducible rfl
   try simp only [Act.put,tD,tB,tC,tA,tE,tF]
   refine wpAnyH_take (i:=5) (v:=?_) rfl (by kernel_rfl) (by kernel_rfl) (by kernel_rfl) (fun _ _ _ h=>h) (Or.inl ⟨by rfl,?_⟩) hS0 ?_
   rotate_left
   ·intro W _;go_simp;try with_reducible rfl
   try simp only [Act.put,tD,tB,tC,tA,tE,tF]
   refine wpAnyH_ready (rs:=[4]) (by kernel_rfl) (by simp) ?_
   refine AllReadyH.cons rfl (fun K hK=>?_) AllReadyH.nil
   go_simp
   have hBS:Below w.heap.size w _:=hb.trans (hS0.mono hb.size)
   have hzS:=hBS.size
   refine (KN.out _ (HRd.out.later hS0)).mono ?_
   rintro v v1 ⟨⟨u,rfl,hO⟩,hbl⟩
   have HO:=Lib.hid hO;clear hO
   go_simp
   refine hK.out _ _ (hS0.trans (hbl.mono hS0.size)) (fun hS1=>?_)
   clear hK K
   try simp only [Act.put,tD,tB,tC,tA,tE,tF]
   refine wpAnyH_take (i:=6) (v:=?_) rfl (by kernel_rfl) (by kernel_rfl) (by kernel_rfl) (fun _ _ _ h=>h) (Or.inl ⟨by rfl,?_⟩) hS1 ?_
   rotate_left
   ·intro W _;go_simp;try with_reducible rfl
   try simp only [Act.put,tD,tB,tC,tA,tE,tF]
   refine wpAnyH_take (i:=7) (v:=?_) rfl (by kernel_rfl) (by kernel_rfl) (by kernel_rfl) (fun _ _ _ h=>h) (Or.inl ⟨by rfl,?_⟩) hS1 ?_
   rotate_left
   ·intro W _;go_simp;try with_reducible rfl
   try simp only [Act.put,tD,tB,tC,tA,tE,tF]
   refine wpAnyH_take (i:=8) (v:=?_) rfl (by kernel_rfl) (by kernel_rfl) (by kernel_rfl) (fun _ _ _ h=>h) (Or.inl ⟨by rfl,?_⟩) hS1 ?_
   rotate_left
   ·intro W _;go_simp;try with_reducible rfl
   try simp only [Act.put,tD,tB,tC,tA,tE,tF]
   refine wpAnyH_done (by kernel_rfl) ?_ _
   have hBv:Below w.heap.size w v1:=hb.trans (hS1.mono hb.size)
   go_wp2_with fail
   exact bodyPost_ret (v:=.tuple #[.string (chN L oc),u,.bool oc.isSome]) (by simp [results,Tryz.results191,go_sem]) rfl ⟨⟨_,rfl,HO.out.base hzS⟩,hBv⟩
end
end Go.Proofs.YtccccbofcnmdiaaGreat
