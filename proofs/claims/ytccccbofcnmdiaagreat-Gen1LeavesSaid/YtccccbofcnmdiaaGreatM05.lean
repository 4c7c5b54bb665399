/- Lemmas that the law stands on. No condition. -/
import Derived.Test.YtccccbofcnmdiaaGreatM04
namespace Go.Proofs.YtccccbofcnmdiaaGreat
set_option linter.unusedSimpArgs false
set_option linter.unusedVariables false
set_option maxRecDepth 100000
set_option maxHeartbeats 51200000
section
open Go.RowKit
structure Sm (S:Sg):Prop where
 M:S.M.length<=1000
 Q:S.Q.length<=1000
 J:S.J.length<=1000
 lM:∀ x ∈ S.M,x.2.length<=1000
 lJ:∀ x ∈ S.J,x.2.length<=1000
 nx:1<=S.nx/\S.nx<=4611686018427387904
 ck:0<=S.ck/\S.ck<=4611686018427387904
structure Gs (w:World) (b g:Nat) (lst:Int) (vM vQ vJ:Value) (S:Sg):Prop where
 bk:Bk w g 73 #[.int .i64 S.ck,.int .i64 lst,vM,vQ,vJ]
 nx:S.nx=lst+1
 own:OwnS w b vM vQ vJ S
 le:b<=g
 ne:∀ k,blkS vM vQ vJ S k->k ≠ g
section
variable {w w':World} {b b' g:Nat} {lst:Int} {vM vQ vJ:Value} {S:Sg}
def blkG (g:Nat) (vM vQ vJ:Value) (S:Sg) (k:Nat):Prop:=k=g ∨ blkS vM vQ vJ S k
theorem Gs.grp {p:Nat->Prop} (h:Gs w b g lst vM vQ vJ S) (hg:GrP p w w') (hp:∀ k,blkG g vM vQ vJ S k -> ¬ p k):Gs w' b g lst vM vQ vJ S:=
 ⟨h.bk.grp hg (hp g (.inl rfl)),h.nx,h.own.grp hg fun k hk=>hp k (.inr hk),h.le,h.ne⟩
theorem Gs.below (h:Gs w b g lst vM vQ vJ S) (hb:Below w.heap.size w w'):Gs w' b g lst vM vQ vJ S:=h.grp (GrP.ofBelow (p:=fun _=>False) hb) fun _ _ e=>e
theorem Gs.base (h:Gs w b g lst vM vQ vJ S) (hb:b' <= b):Gs w b' g lst vM vQ vJ S:=⟨h.bk,h.nx,h.own.base hb,Nat.le_trans hb h.le,h.ne⟩
theorem Gs.blk (h:Gs w b g lst vM vQ vJ S) {k:Nat} (hk:blkG g vM vQ vJ S k):b<=k/\k<w.heap.size:=by
 rcases hk with rfl | hk
 ·exact ⟨h.le,h.bk.here⟩
 ·exact h.own.blk hk
end
theorem blkS_new {k:Nat}:¬ blkS (.slice none 0 0) (.slice none 0 0) (.slice none 0 0) Sg.new k:=by
 rintro (e | e | e | ⟨x,hx,_⟩ | ⟨x,hx,_⟩)
 ·cases e
 ·cases e
 ·cases e
 ·cases hx
 ·cases hx
theorem ownS_new (w:World) (b:Nat):OwnS w b (.slice none 0 0) (.slice none 0 0) (.slice none 0 0) Sg.new:=
 ⟨OwnK.nil _ _ _ _,OwnK.nil _ _ _ _,OwnK.nil _ _ _ _,fun x hx=>(by cases hx),fun x hx=>(by cases hx),fun x hx=>(by cases hx),fun x hx=>(by cases hx),fun x hx=>(by cases hx)⟩
theorem sm_new:Sm Sg.new:=⟨by decide,by decide,by decide,fun x hx=>(by cases hx),fun x hx=>(by cases hx),by decide,by decide⟩
theorem gs_new (w:World) (t:TypeId) (ht:t=73):Gs (w.alloc (.cells #[.int .i64 0,.int .i64 0,.slice none 0 0,.slice none 0 0,.slice none 0 0] t)) w.heap.size w.heap.size 0 (.slice none 0 0) (.slice none 0 0) (.slice none 0 0) Sg.new:=by
 subst ht
 exact ⟨Bk.fresh _ _ _,rfl,ownS_new _ _,Nat.le_refl _,fun k hk=>(blkS_new hk).elim⟩

theorem new_any (w:World):Calls Tryz.prog 14 #[] w fun e w'=>e = .returned (.pointer (some ⟨w.heap.size,0,none⟩))/\Gs w' w.heap.size w.heap.size 0 (.slice none 0 0) (.slice none 0 0) (.slice none 0 0) Sg.new/\Below w.heap.size w w':=by
 go_enter Tryz.func14,Tryz.ntmps14
 go_wp2
 go_ret
 exact ⟨rfl,gs_new w _ rfl,(Below.refl _ _).alloc (Nat.le_refl _) _⟩

theorem next_any (g:Nat) (ck lst nx:Int) (vM vQ vJ:Value) (w:World) (hB:Hid (Bk w g 73 #[.int .i64 ck,.int .i64 lst,vM,vQ,vJ])) (hn:nx=lst+1) (h1:1<=nx/\nx<=4611686018427387904) :
  Calls Tryz.prog 47 #[.pointer (some ⟨g,0,none⟩)] w fun e w'=>e = .returned (.int .i64 nx)/\w=w':=by
 have c1:w.cell? ⟨g,1,none⟩=some (.int .i64 lst):=hB.out.cellAt 1
 go_enter Tryz.func47,Tryz.ntmps47
 go_wp2
 go_ret
 exact ⟨by rw [hn];rfl,rfl⟩


theorem state_any (b g:Nat) (lst:Int) (vM vQ vJ:Value) (S:Sg) (w:World) (hG:Hid (Gs w b g lst vM vQ vJ S)) (hM:Hid (Sm S)) :
  Calls Tryz.prog 20 #[.pointer (some ⟨g,0,none⟩)] w fun e w'=>(∃ vM vQ vJ S',e = .returned (.agg #[.int .i64 S.ck,.int .i64 S.nx,vM,vQ,vJ])/\OwnS w' w.heap.size vM vQ vJ S' /\ S'.bare=S.bare)/\Below w.heap.size w w':=by
 obtain ⟨⟨ck,nx,A,N,cA,B,K0,cB,C,n,cC⟩,hva,hvr⟩:=hG.out.own.rd
 have hv1:.slice A N cA=vM:=congrArg (fun a:Array Value=>a.getD 2 undef) hva
 have hv2:.slice B K0 cB=vQ:=congrArg (fun a:Array Value=>a.getD 3 undef) hva
 have hv3:.slice C n cC=vJ:=congrArg (fun a:Array Value=>a.getD 4 undef) hva
 have e1:ck=S.ck:=hvr.ck
 have e2:nx=S.nx:=hvr.nx
 subst hv1 hv2 hv3 e1 e2
 clear hva hvr
 have hN:Hid (S.nx=lst+1):=hG.out.nx
 have kc:∀ (v:Sv) (W:World),v.arr = #[.int .i64 S.ck,.int .i64 S.nx,.slice A N cA,.slice B K0 cB,.slice C n cC]->RdSt W v S->Calls Tryz.prog 30 #[.agg #[.int .i64 S.ck,.int .i64 S.nx,.slice A N cA,.slice B K0 cB,.slice C n cC]] W fun e w'=>(∃ vM vQ vJ S',e = .returned (.agg #[.int .i64 S.ck,.int .i64 S.nx,vM,vQ,vJ])/\OwnS w' W.heap.size vM vQ vJ S' /\ S'.bare=S.bare)/\Below W.heap.size W w':=fun v W hva hvr=>by
  rw [<- hva]
  exact copy_any v S _ hvr (by rw [hvr.N];exact hM.out.M) (by rw [hvr.K];exact hM.out.Q) (by rw [hvr.n];exact hM.out.J) hM.out.lM hM.out.lJ
 have KC:=Lib.hid kc;clear kc
 obtain ⟨W0,hW0⟩:∃ W0,W0=w.alloc (.cells #[.int .i64 0,.int .i64 0,.slice none 0 0,.slice none 0 0,.slice none 0 0] 31):=⟨_,rfl⟩
 have hG0:Hid (Gs W0 b g lst (.slice A N cA) (.slice B K0 cB) (.slice C n cC) S):=by rw [hW0];exact hG.out.below ((Below.refl _ _).alloc (Nat.le_refl _) _)
 have hR0:Hid (Bk W0 w.heap.size 31 #[.int .i64 0,.int .i64 0,.slice none 0 0,.slice none 0 0,.slice none 0 0]):=by rw [hW0];exact Bk.fresh _ _ _
 have hB0:Below w.heap.size w W0:=by rw [hW0];exact (Below.refl _ _).alloc (Nat.le_refl _) _
 go_enter Tryz.func20,Tryz.ntmps20
 go_wp2_with fail
 rw [<- hW0]
 clear hW0
 ·skip
  refine wp_region_E (S:=fun W=>Gs W b g lst (.slice A N cA) (.slice B K0 cB) (.slice C n cC) S/\Bk W w.heap.size 31 #[.int .i64 0,.int .i64 0,.slice none 0 0,.slice none 0 0,.slice none 0 0]/\Below w.heap.size w W) 20 (by kernel_rfl) ⟨hG0.out.below (Below.drew (Below.refl _ _)),hR0.out.drewB,Below.drew hB0⟩ (fun hS0=>?_)
  refine wpAnyE_take (i:=0) (v:=?_) rfl (by kernel_rfl) (by kernel_rfl) (by kernel_rfl) (by kernel_rfl) (by kernel_rfl) (fun _ _ _ h=>h) (Or.inl ⟨by rfl,?_⟩) hS0 ?_
  rotate_left
  ·intro W _;go_simp;try with_reducible rfl
  try simp only [Act.put,tD,tB,tA,tE,tF]
  refine wpAnyE_take (i:=1) (v:=?_) rfl (by kernel_rfl) (by kernel_rfl) (by kernel_rfl) (by kernel_rfl) (by kernel_rfl) (fun _ _ _ h=>h) (Or.inl ⟨by rfl,?_⟩) hS0 ?_
  rotate_left
  ·intro W _;go_simp;try with_reducible rfl
  try simp only [Act.put,tD,tB,tC,tA,tE,tF]
  refine wpAnyE_take (i:=2) (v:=?_) rfl (by kernel_rfl) (by kernel_rfl) (by kernel_rfl) (by kernel_rfl) (by kernel_rfl) (fun _ _ _ h=>h) (Or.inl ⟨by rfl,?_⟩) hS0 ?_
  rotate_left
  ·intro W _;go_simp;try with_reducible rfl
  try simp only [Act.put,tD,tB,tC,tA,tE,tF]
  refine wpAnyE_take (i:=3) (v:=?_) rfl (by kernel_rfl) (by kernel_rfl) (by kernel_rfl) (by kernel_rfl) (by kernel_rfl) (fun _ _ _ h=>h) (Or.inl ⟨by rfl,?_⟩) hS0 ?_
  rotate_left
  ·intro W hSW;have hx:=hSW.1.bk.cellAt 0;go_simp;try with_reducible rfl
  try simp only [Act.put,tD,tB,tC,tA,tE,tF]
  refine wpAnyE_take (i:=4) (v:=?_) rfl (by kernel_rfl) (by kernel_rfl) (by kernel_rfl) (by kernel_rfl) (by kernel_rfl) (fun _ _ _ h=>h) (Or.inl ⟨by rfl,?_⟩) hS0 ?_
  rotate_left
  ·intro W _;go_simp;try with_reducible rfl
  try simp only [Act.put,tD,tB,tC,tA,tE,tF]
  refine wpAnyE_take (i:=6) (v:=?_) rfl (by kernel_rfl) (by kernel_rfl) (by kernel_rfl) (by kernel_rfl) (by kernel_rfl) (fun _ _ _ h=>h) (Or.inl ⟨by rfl,?_⟩) hS0 ?_
  rotate_left
  ·intro W _;go_simp;try with_reducible rfl
  try simp only [Act.put,tD,tB,tC,tA,tE,tF]
  refine wpAnyE_take (i:=7) (v:=?_) rfl (by kernel_rfl) (by kernel_rfl) (by kernel_rfl) (by kernel_rfl) (by kernel_rfl) (fun _ _ _ h=>h) (Or.inl ⟨by rfl,?_⟩) hS0 ?_
  rotate_left
  ·intro W _;go_simp;try with_reducible rfl
  try simp only [Act.put,tD,tB,tC,tA,tE,tF]
  refine wpAnyE_take (i:=8) (v:=?_) rfl (by kernel_rfl) (by kernel_rfl) (by kernel_rfl) (by kernel_rfl) (by kernel_rfl) (fun _ _ _ h=>h) (Or.inl ⟨by rfl,?_⟩) hS0 ?_
  rotate_left
  ·intro W _;go_simp;try with_reducible rfl
  try simp only [Act.put,tD,tB,tC,tA,tE,tF]
  refine wpAnyE_take (i:=9) (v:=?_) rfl (by kernel_rfl) (by kernel_rfl) (by kernel_rfl) (by kernel_rfl) (by kernel_rfl) (fun _ _ _ h=>h) (Or.inl ⟨by rfl,?_⟩) hS0 ?_
  rotate_left
  ·intro W hSW;have hx:=hSW.1.bk.cellAt 2;go_simp;try with_reducible rfl
  try simp only [Act.put,tD,tB,tC,tA,tE,tF]
  refine wpAnyE_take (i:=10) (v:=?_) rfl (by kernel_rfl) (by kernel_rfl) (by kernel_rfl) (by kernel_rfl) (by kernel_rfl) (fun _ _ _ h=>h) (Or.inl ⟨by rfl,?_⟩) hS0 ?_
  rotate_left
  ·intro W _;go_simp;try with_reducible rfl
  try simp only [Act.put,tD,tB,tC,tA,tE,tF]
  refine wpAnyE_take (i:=11) (v:=?_) rfl (by kernel_rfl) (by kernel_rfl) (by kernel_rfl) (by kernel_rfl) (by kernel_rfl) (fun _ _ _ h=>h) (Or.inl ⟨by rfl,?_⟩) hS0 ?_
  rotate_left
  ·intro W _;go_simp;try with_reducible rfl
  try simp only [Act.put,tD,tB,tC,tA,tE,tF]
  refine wpAnyE_take (i:=12) (v:=?_) rfl (by kernel_rfl) (by kernel_rfl) (by kernel_rfl) (by kernel_rfl) (by kernel_rfl) (fun _ _ _ h=>h) (Or.inl ⟨by rfl,?_⟩) hS0 ?_
  rotate_left
  ·intro W _;go_simp;try with_reducible rfl
  try simp only [Act.put,tD,tB,tC,tA,tE,tF]
  refine wpAnyE_take (i:=13) (v:=?_) rfl (by kernel_rfl) (by kernel_rfl) (by kernel_rfl) (by kernel_rfl) (by kernel_rfl) (fun _ _ _ h=>h) (Or.inl ⟨by rfl,?_⟩) hS0 ?_
  rotate_left
  ·intro W hSW;have hx:=hSW.1.bk.cellAt 3;go_simp;try with_reducible rfl
  try simp only [Act.put,tD,tB,tC,tA,tE,tF]
  refine wpAnyE_take (i:=14) (v:=?_) rfl (by kernel_rfl) (by kernel_rfl) (by kernel_rfl) (by kernel_rfl) (by kernel_rfl) (fun _ _ _ h=>h) (Or.inl ⟨by rfl,?_⟩) hS0 ?_
  rotate_left
  ·intro W _;go_simp;try with_reducible rfl
  try simp only [Act.put,tD,tB,tC,tA,tE,tF]
  refine wpAnyE_take (i:=15) (v:=?_) rfl (by kernel_rfl) (by kernel_rfl) (by kernel_rfl) (by kernel_rfl) (by kernel_rfl) (fun _ _ _ h=>h) (Or.inl ⟨by rfl,?_⟩) hS0 ?_
  rotate_left
  ·intro W _;go_simp;try with_reducible rfl
  try simp only [Act.put,tD,tB,tC,tA,tE,tF]
  refine wpAnyE_take (i:=16) (v:=?_) rfl (by kernel_rfl) (by kernel_rfl) (by kernel_rfl) (by kernel_rfl) (by kernel_rfl) (fun _ _ _ h=>h) (Or.inl ⟨by rfl,?_⟩) hS0 ?_
  rotate_left
  ·intro W _;go_simp;try with_reducible rfl
  try simp only [Act.put,tD,tB,tC,tA,tE,tF]
  refine wpAnyE_take (i:=17) (v:=?_) rfl (by kernel_rfl) (by kernel_rfl) (by kernel_rfl) (by kernel_rfl) (by kernel_rfl) (fun _ _ _ h=>h) (Or.inl ⟨by rfl,?_⟩) hS0 ?_
  rotate_left
  ·intro W hSW;have hx:=hSW.1.bk.cellAt 4;go_simp;try with_reducible rfl
  try simp only [Act.put,tD,tB,tC,tA,tE,tF]
  refine wpAnyE_ready (rs:=[5]) (by kernel_rfl) (by simp) ?_
  refine AllReadyE.cons rfl (fun K hK=>?_) AllReadyE.nil
  go_simp
  refine (next_any g S.ck lst S.nx _ _ _ _ hS0.1.bk hN.out hM.out.nx).mono ?_
  rintro e w5 ⟨rfl,rfl⟩
  go_simp
  refine hK.out _ _ (hS0) (fun hS1=>?_)
  clear hK K
  try simp only [Act.put,tD,tB,tC,tA,tE,tF]
  refine wpAnyE_take (i:=18) (v:=?_) rfl (by kernel_rfl) (by kernel_rfl) (by kernel_rfl) (by kernel_rfl) (by kernel_rfl) (fun _ _ _ h=>h) (Or.inl ⟨by rfl,?_⟩) hS1 ?_
  rotate_left
  ·intro W _;go_simp;try with_reducible rfl
  try simp only [Act.put,tD,tB,tC,tA,tE,tF]
  refine wpAnyE_ready (rs:=[19]) (by kernel_rfl) (by simp) ?_
  refine AllReadyE.cons rfl (fun K hK=>?_) AllReadyE.nil
  go_simp
  obtain ⟨v,hva,hvr⟩:=hS1.1.own.rd
  refine (KC.out v _ hva hvr).mono ?_
  rintro e w6 ⟨⟨uM,uQ,uJ,S',rfl,hO,hbare⟩,hb6⟩
  obtain ⟨⟨ck6,nx6,A6,N6,cA6,B6,K6,cB6,C6,n6,cC6⟩,hva6,_⟩:=hO.rd
  have hv1:.slice A6 N6 cA6=uM:=congrArg (fun a:Array Value=>a.getD 2 undef) hva6
  have hv2:.slice B6 K6 cB6=uQ:=congrArg (fun a:Array Value=>a.getD 3 undef) hva6
  have hv3:.slice C6 n6 cC6=uJ:=congrArg (fun a:Array Value=>a.getD 4 undef) hva6
  subst hv1 hv2 hv3
  clear hva6
  have hlt6:=hS1.2.1.here
  have HO6:Hid (OwnS w6 (w.heap.size+1) _ _ _ S'):=hO.base hlt6
  clear hO hlt6
  go_simp
  refine hK.out _ _ (⟨hS1.1.below hb6,hS1.2.1.later hb6,hS1.2.2.trans (hb6.mono hS1.2.2.size)⟩) (fun hS2=>?_)
  clear hK K
  try simp only [Act.put,tD,tB,tC,tA,tE,tF]
  refine wpAnyE_ready (rs:=[20]) (by kernel_rfl) (by simp) ?_
  refine AllReadyE.last rfl (by kernel_rfl) (fun K hK=>?_) AllReadyE.nil
  rw [if_pos (by rfl)]
  refine store_bk_op 31 (.tmp 2) (.tmp 26) rfl w.heap.size 0 #[.int .i64 S.ck,.int .i64 S.nx,.slice A6 N6 cA6,.slice B6 K6 cB6,.slice C6 n6 cC6] rfl rfl 31 _ #[.int .i64 S.ck,.int .i64 S.nx,.slice A6 N6 cA6,.slice B6 K6 cB6,.slice C6 n6 cC6] hS2.2.1 (by kernel_rfl) (by simp) (by kernel_rfl) rfl ?_
  intro w7 hB7 hg7 hs7
  refine hK.out _ _ ?_
  clear hK K
  try simp only [Act.put,tD,tB,tC,tA,tE,tF]
  refine wpAny_of_held (S:=fun _=>True) _ _ _ _ ?_
  refine wpAnyH_done (by kernel_rfl) ?_ _
  go_wp2_with fail
  have hO7:OwnS w7 w.heap.size _ _ _ S':=(HO6.out.grp (GrP.of hg7) fun k hk e=>by have:=(HO6.out.blk hk).1;injection e with e;omega).base (by omega)
  exact bodyPost_ret (v:=.agg #[.int .i64 S.ck,.int .i64 S.nx,.slice A6 N6 cA6,.slice B6 K6 cB6,.slice C6 n6 cC6]) (results_bk1 Tryz.results20 _ _ w.heap.size 31 _ _ rfl hB7 Tryz.underlying31 rfl (by kernel_rfl)) rfl ⟨⟨_,_,_,S',rfl,hO7,hbare⟩,hS2.2.2.grown hg7 (by have:=hS2.2.2.size;omega) (fun q e=>by injection e with e;omega)⟩
end
section
open Go.RowKit Go.Sort
def Gw (w W:World):Prop:=∃ q os,W=grow (w.drewN q) os
section
variable {w w1 w2:World}
theorem Gw.refl (w:World):Gw w w:=⟨0,#[],by rw [grow_empty];rfl⟩
theorem Gw.drew (h:Gw w w1):Gw w w1.drew:=by
 obtain ⟨q,os,rfl⟩:=h
 exact ⟨q+1,os,rfl⟩
theorem Gw.alloc (h:Gw w w1) (o:Obj):Gw w (w1.alloc o):=by
 obtain ⟨q,os,rfl⟩:=h
 exact ⟨q,os ++ #[o],by rw [alloc_eq_grow,grow_grow]⟩
theorem Gw.trans (h:Gw w w1) (k:Gw w1 w2):Gw w w2:=by
 obtain ⟨q,os,rfl⟩:=h
 obtain ⟨q',os',rfl⟩:=k
 exact ⟨q+q',os ++ os',by show grow (grow ((w.drewN q).drewN q') os) os' = _;rw [grow_grow,World.drewN_drewN]⟩
theorem Gw.cell (h:Gw w w1) {b o:Nat} (hb:b<w.heap.size):w1.cell? ⟨b,o,none⟩=w.cell? ⟨b,o,none⟩:=by
 obtain ⟨q,os,rfl⟩:=h
 rw [cell?_grow _ _ _ (by exact hb)];rfl
end
end
section
open Go.RowKit


theorem compareString_any (a b:ByteArray) (w:World) :
  Calls Tryz.prog 172 #[.string a,.string b] w fun e w'=>e = .returned (.int .i64 (Lib.compareBytes a.data.toList b.data.toList))/\w=w':=by
 have mixed:Tryz.prog.follows .mixedOrders=true:=by kernel_rfl
 go_enter Tryz.func172,Tryz.ntmps172
 go_wp2
 rw [run_callFunc_extern Tryz.func192 (by kernel_rfl) (by kernel_rfl) (by kernel_rfl) (e:=Extern.BytealgCompare.compare) (by kernel_rfl),Lib.run_compareString]
 simp only [Result.andThen]
 rw [Oper.upon_value]
 go_wp2
 go_ret
 exact ⟨rfl,rfl⟩

theorem compare_any (a b:ByteArray) (w:World) :
  Calls Tryz.prog 138 #[.string a,.string b] w fun e w'=>e = .returned (.int .i64 (Lib.compareBytes a.data.toList b.data.toList))/\w=w':=by
 have hcon:=fun W=>compareString_any a b W
 generalize Lib.compareBytes a.data.toList b.data.toList=r at hcon ⊢
 go_enter Tryz.func138,Tryz.ntmps138
 go_wp2_with (go_at_call 172;refine (hcon _).mono ?_;rintro e w' ⟨rfl,rfl⟩)
 go_ret
 exact ⟨rfl,rfl⟩
theorem compareBytes_neg:∀ (a b:List UInt8),(Lib.compareBytes a b<0) ↔ a<b
 | [],[]=>by simp [Lib.compareBytes]
 | [],_ :: _=>by simp [Lib.compareBytes]
 | _ :: _,[]=>by simp [Lib.compareBytes]
 | x :: a,y :: b=>by
  unfold Lib.compareBytes
  rw [List.cons_lt_cons_iff]
  by_cases h1:x<y
  ·simp [h1]
  ·by_cases h2:y<x
   ·have:x ≠ y:=by rintro rfl;exact h1 h2
    simp [h1,h2,this]
   ·have:x=y:=UInt8.le_antisymm (UInt8.not_lt.1 h2) (UInt8.not_lt.1 h1)
    subst this
    simp [h1,compareBytes_neg a b]
def cI (x y:Int):Int:=if x<y then -1 else if y<x then 1 else 0
theorem cI_neg {x y:Int}:cI x y<0 ↔ x<y:=by
 unfold cI;split
 ·simp [*]
 ·split <;> simp [*]
theorem cI_zero {x y:Int}:cI x y=0 ↔ x=y:=by
 unfold cI;split
 ·simp;omega
 ·split
  ·simp;omega
  ·simp;omega

theorem compareI_any (x y:Int) (w:World) :
  Calls Tryz.prog 212 #[.int .i64 x,.int .i64 y] w fun e w'=>e = .returned (.int .i64 (cI x y))/\w=w':=by
 obtain ⟨r,hr⟩:∃ r,r=cI x y:=⟨_,rfl⟩
 rw [<- hr]
 have HR:=Lib.hid hr;clear hr
 by_cases h1:x<y
 ·have hq:r = -1:=by rw [HR.out];unfold cI;rw [if_pos h1]
  subst hq
  go_enter Tryz.func212,Tryz.ntmps212
  go_wp2
  go_ret
  exact ⟨rfl,rfl⟩
 ·by_cases h2:y<x
  ·have hq:r=1:=by rw [HR.out];unfold cI;rw [if_neg h1,if_pos h2]
   subst hq
   go_enter Tryz.func212,Tryz.ntmps212
   go_wp2
   go_ret
   exact ⟨rfl,rfl⟩
  ·have hq:r=0:=by rw [HR.out];unfold cI;rw [if_neg h1,if_neg h2]
   subst hq
   go_enter Tryz.func212,Tryz.ntmps212
   go_wp2
   go_ret
   exact ⟨rfl,rfl⟩
def or2 (x y:Int):Int:=if x=0 then y else x

theorem or2_any (x y:Int) (g:Nat) (w:World) (hg:g<w.heap.size) (c0:w.cell? ⟨g,0,none⟩=some (.int .i64 x)) (c1:w.cell? ⟨g,1,none⟩=some (.int .i64 y)) :
  Calls Tryz.prog 211 #[.slice (some ⟨g,0,none⟩) 2 2] w fun e w'=>e = .returned (.int .i64 (or2 x y))/\w=w':=by
 obtain ⟨r,hr⟩:∃ r,r=or2 x y:=⟨_,rfl⟩
 rw [<- hr]
 have HR:=Lib.hid hr;clear hr
 by_cases h1:x=0
 ·have hq:r=y:=by rw [HR.out];unfold or2;rw [if_pos h1]
  subst h1 hq
  clear HR
  by_cases h2:r=0
  ·subst h2
   go_enter Tryz.func211,Tryz.ntmps211
   go_wp2_with fail
   refine wp_loop_rounds 3 ?_
   rw [rounds_succ]
   go_wp2_with fail
   rw [rounds_succ]
   go_wp2_with fail
   rw [rounds_succ]
   go_wp2_with fail
   go_ret
   exact ⟨rfl,rfl⟩
  ·have h3:(r != 0)=true:=by simpa using h2
   have h4:(r == 0)=false:=by simpa using h2
   clear h2
   go_enter Tryz.func211,Tryz.ntmps211
   go_wp2_with fail
   refine wp_loop_rounds 3 ?_
   rw [rounds_succ]
   go_wp2_with fail
   rw [rounds_succ]
   go_wp2_with fail
   go_ret
   exact ⟨rfl,rfl⟩
 ·have hq:r=x:=by rw [HR.out];unfold or2;rw [if_neg h1]
  subst hq
  have h3:(r != 0)=true:=by simpa using h1
  have h4:(r == 0)=false:=by simpa using h1
  clear h1 HR
  go_enter Tryz.func211,Tryz.ntmps211
  go_wp2_with fail
  refine wp_loop_rounds 3 ?_
  rw [rounds_succ]
  go_wp2_with fail
  go_ret
  exact ⟨rfl,rfl⟩
end
section
open Go.RowKit Go.Sort
def cfE (x y:ByteArray × Int):Int:=or2 (cI x.2 y.2) (Lib.compareBytes x.1.data.toList y.1.data.toList)
section
variable {ops:Array Oper} {o:Oper} {a:Act} {w:World} {K:Act->World->Prop} {Q:Exit->Act->World->Prop}
theorem itwo_op (t u:Tmp) (x y:Int) (ho:o.op = .buildSlice 150 2 #[(0,.tmp t),(1,.tmp u)]) (hx:a.tmps[t]?.getD undef = .int .i64 x) (hy:a.tmps[u]?.getD undef = .int .i64 y) (h:∀ g w',g=w.heap.size->w' = w.alloc (.cells #[.int .i64 x,.int .i64 y] 3)->K (a.put o.dst (.slice (some ⟨g,0,none⟩) 2 2)) w'):o.wp Tryz.prog a w K Q:=by
 unfold Oper.wp execOp
 simp only [ho]
 go_simp
 exact h _ _ rfl rfl
end


theorem cmpE_any (a:ByteArray) (b:Int) (c:ByteArray) (d:Int) (w:World) :
  Calls Tryz.prog 215 #[.agg #[.string a,.int .i64 b],.agg #[.string c,.int .i64 d]] w fun e w'=>e = .returned (.int .i64 (cfE (a,b) (c,d)))/\Gw w w':=by
 have k1:=fun W=>compareI_any b d W
 have k2:=fun W=>compare_any a c W
 have k3:=fun (x y:Int) (g:Nat) W=>or2_any x y g W
 obtain ⟨r,hr⟩:∃ r,r=cfE (a,b) (c,d):=⟨_,rfl⟩
 rw [<- hr]
 unfold cfE at hr
 simp only at hr
 generalize cI b d=p at k1 hr
 generalize Lib.compareBytes a.data.toList c.data.toList=q at k2 hr
 have K1:=Lib.hid k1;have K2:=Lib.hid k2;have K3:=Lib.hid k3;have HR:=Lib.hid hr;clear k1 k2 k3 hr
 go_enter Tryz.func215,Tryz.ntmps215
 go_wp2_with fail
 have hg0:Gw w ((w.alloc (.cells #[.string a,.int .i64 b] 246)).alloc (.cells #[.string c,.int .i64 d] 246)):=((Gw.refl w).alloc _).alloc _
 have hA0:=(Bk.fresh w 246 #[.string a,.int .i64 b]).later (w':=(w.alloc (.cells #[.string a,.int .i64 b] 246)).alloc (.cells #[.string c,.int .i64 d] 246)) ((Below.refl _ _).alloc (Nat.le_refl _) _)
 have hC0:Bk ((w.alloc (.cells #[.string a,.int .i64 b] 246)).alloc (.cells #[.string c,.int .i64 d] 246)) (w.heap.size+1) 246 #[.string c,.int .i64 d]:=Bk.freshAt _ _ _ (by simp)
 generalize hw1:(w.alloc (.cells #[.string a,.int .i64 b] 246)).alloc (.cells #[.string c,.int .i64 d] 246)=w1 at hg0 hA0 hC0 ⊢
 clear hw1
 have la:w.heap.size<w1.heap.size:=hA0.here
 have lc:w.heap.size+1<w1.heap.size:=hC0.here
 have a0:w1.cell? ⟨w.heap.size,0,none⟩=some (.string a):=hA0.cellAt 0
 have a1:w1.cell? ⟨w.heap.size,1,none⟩=some (.int .i64 b):=hA0.cellAt 1
 have c0:w1.cell? ⟨w.heap.size+1,0,none⟩=some (.string c):=hC0.cellAt 0
 have c1:w1.cell? ⟨w.heap.size+1,1,none⟩=some (.int .i64 d):=hC0.cellAt 1
 have A0:=Lib.hid a0;have A1:=Lib.hid a1;have C0:=Lib.hid c0;have C1:=Lib.hid c1;have LA:=Lib.hid la;have LC:=Lib.hid lc;have HG0:=Lib.hid hg0
 clear hA0 hC0 a0 a1 c0 c1 la lc hg0
 refine wp_region_held_drew (S:=fun W=>Gw w1 W) (by kernel_rfl) ((Gw.refl _).drew) (fun hS0=>?_)
 refine wpAnyH_take (i:=0) (v:=?_) rfl (by kernel_rfl) (by kernel_rfl) (by kernel_rfl) (fun _ _ _ h=>h) (Or.inl ⟨by rfl,?_⟩) hS0 ?_
 rotate_left
 ·intro W _;go_simp;try with_reducible rfl
 try simp only [Act.put,tD,tB,tC,tA,tE,tF]
 refine wpAnyH_take (i:=1) (v:=?_) rfl (by kernel_rfl) (by kernel_rfl) (by kernel_rfl) (fun _ _ _ h=>h) (Or.inl ⟨by rfl,?_⟩) hS0 ?_
 rotate_left
 ·intro W hSW;have hx:=(hSW.cell LA.out).trans A1.out;go_simp;try with_reducible rfl
 try simp only [Act.put,tD,tB,tC,tA,tE,tF]
 refine wpAnyH_take (i:=2) (v:=?_) rfl (by kernel_rfl) (by kernel_rfl) (by kernel_rfl) (fun _ _ _ h=>h) (Or.inl ⟨by rfl,?_⟩) hS0 ?_
 rotate_left
 ·intro W _;go_simp;try with_reducible rfl
 try simp only [Act.put,tD,tB,tC,tA,tE,tF]
 refine wpAnyH_take (i:=3) (v:=?_) rfl (by kernel_rfl) (by kernel_rfl) (by kernel_rfl) (fun _ _ _ h=>h) (Or.inl ⟨by rfl,?_⟩) hS0 ?_
 rotate_left
 ·intro W hSW;have hx:=(hSW.cell LC.out).trans C1.out;go_simp;try with_reducible rfl
 try simp only [Act.put,tD,tB,tC,tA,tE,tF]
 refine wpAnyH_take (i:=5) (v:=?_) rfl (by kernel_rfl) (by kernel_rfl) (by kernel_rfl) (fun _ _ _ h=>h) (Or.inl ⟨by rfl,?_⟩) hS0 ?_
 rotate_left
 ·intro W _;go_simp;try with_reducible rfl
 try simp only [Act.put,tD,tB,tC,tA,tE,tF]
 refine wpAnyH_take (i:=6) (v:=?_) rfl (by kernel_rfl) (by kernel_rfl) (by kernel_rfl) (fun _ _ _ h=>h) (Or.inl ⟨by rfl,?_⟩) hS0 ?_
 rotate_left
 ·intro W hSW;have hx:=(hSW.cell LA.out).trans A0.out;go_simp;try with_reducible rfl
 try simp only [Act.put,tD,tB,tC,tA,tE,tF]
 refine wpAnyH_take (i:=7) (v:=?_) rfl (by kernel_rfl) (by kernel_rfl) (by kernel_rfl) (fun _ _ _ h=>h) (Or.inl ⟨by rfl,?_⟩) hS0 ?_
 rotate_left
 ·intro W _;go_simp;try with_reducible rfl
 try simp only [Act.put,tD,tB,tC,tA,tE,tF]
 refine wpAnyH_take (i:=8) (v:=?_) rfl (by kernel_rfl) (by kernel_rfl) (by kernel_rfl) (fun _ _ _ h=>h) (Or.inl ⟨by rfl,?_⟩) hS0 ?_
 rotate_left
 ·intro W hSW;have hx:=(hSW.cell LC.out).trans C0.out;go_simp;try with_reducible rfl
 try simp only [Act.put,tD,tB,tC,tA,tE,tF]
 refine wpAnyH_ready (rs:=[4]) (by kernel_rfl) (by simp) ?_
 refine AllReadyH.cons rfl (fun K hK=>?_) AllReadyH.nil
 go_simp
 refine (K1.out _).mono ?_
 rintro v v1 ⟨rfl,rfl⟩
 go_simp
 refine hK.out _ _ hS0 (fun hS1=>?_)
 clear hK K
 try simp only [Act.put,tD,tB,tC,tA,tE,tF]
 refine wpAnyH_ready (rs:=[9]) (by kernel_rfl) (by simp) ?_
 refine AllReadyH.cons rfl (fun K hK=>?_) AllReadyH.nil
 go_simp
 refine (K2.out _).mono ?_
 rintro v v2 ⟨rfl,rfl⟩
 go_simp
 refine hK.out _ _ hS1 (fun hS2=>?_)
 clear hK K
 try simp only [Act.put,tD,tB,tC,tA,tE,tF]
 refine wpAnyH_ready (rs:=[10]) (by kernel_rfl) (by simp) ?_
 refine AllReadyH.cons rfl (fun K hK=>?_) AllReadyH.nil
 simp only [if_pos,Region.wanted]
 refine itwo_op 9 14 p q rfl rfl rfl ?_
 intro g v3 hg hv3
 subst hg hv3
 refine hK.out _ _ (hS2.alloc _) (fun hS3=>?_)
 clear hK K
 try simp only [Act.put,tD,tB,tC,tA,tE,tF]
 refine wpAnyH_ready (rs:=[11]) (by kernel_rfl) (by simp) ?_
 refine AllReadyH.cons rfl (fun K hK=>?_) AllReadyH.nil
 go_simp
 refine (K3.out p q _ _ (by simp) (by simp) (by simp)).mono ?_
 rintro v v4 ⟨rfl,rfl⟩
 go_simp
 refine hK.out _ _ hS3 (fun hS4=>?_)
 clear hK K
 try simp only [Act.put,tD,tB,tC,tA,tE,tF]
 refine wpAnyH_take (i:=12) (v:=?_) rfl (by kernel_rfl) (by kernel_rfl) (by kernel_rfl) (fun _ _ _ h=>h) (Or.inl ⟨by rfl,?_⟩) hS4 ?_
 rotate_left
 ·intro W _;go_simp;try with_reducible rfl
 try simp only [Act.put,tD,tB,tC,tA,tE,tF]
 refine wpAnyH_done (by kernel_rfl) ?_ _
 go_wp2_with fail
 go_ret
 exact ⟨HR.out.symm ▸ rfl,HG0.out.trans hS4⟩
end
end Go.Proofs.YtccccbofcnmdiaaGreat
